/- lock: Txs: who holds or waits; sorted, and each once. -/
import Derived.Test.YtnfodidfhnofkaaBv
import Derived.Laws.AppendOwnNone
namespace Go.Proofs.Ytnfodidfhnofkaa
open Go.RowKit Go.Deep Go.Maps Go.Sort Go.Lib

theorem compactUpTo_rising {zs : List Int} (hs : zs.Pairwise (· ≤ ·)) : ∀ m, m ≤ zs.length → (compactUpTo zs.toArray m).Pairwise (· < ·) ∧ (∀ t ∈ compactUpTo zs.toArray m, ∃ j, j < m ∧ zs[j]? = some t) ∧ (∀ j t, j < m → zs[j]? = some t → t ∈ compactUpTo zs.toArray m)
  | 0, _ => by
    refine ⟨?_, ?_, fun j t h => absurd h (Nat.not_lt_zero j)⟩ <;> simp [compactUpTo]
  | m + 1, hm => by
    obtain ⟨h1, h2, h3⟩ := compactUpTo_rising hs m (by omega)
    have hml : m < zs.length := by omega
    have e : zs.toArray[m]! = zs[m] := by rw [getElem!_pos zs.toArray m (by simpa using hml)]; simp
    rw [compactUpTo_succ]
    by_cases hk : keeps zs.toArray m = true
    · rw [if_pos hk, e]
      have hlt : ∀ t ∈ compactUpTo zs.toArray m, t < zs[m] := by
        intro t ht
        obtain ⟨j, hj, hjt⟩ := h2 t ht
        obtain ⟨hjl, hje⟩ := List.getElem?_eq_some_iff.1 hjt
        have hm0 : m ≠ 0 := by omega
        have hne : zs[m] ≠ zs[m - 1]'(by omega) := by
          intro heq
          have : keeps zs.toArray m = false := keeps_neg (by omega) (by
            rw [e, getElem!_pos zs.toArray (m - 1) (by simp; omega)]
            simpa using heq)
          rw [this] at hk
          cases hk
        have ha : zs[m - 1]'(by omega) ≤ zs[m] := List.pairwise_iff_getElem.1 hs (m - 1) m (by omega) hml (by omega)
        have hb : t ≤ zs[m - 1]'(by omega) := by
          rw [← hje]
          by_cases hjm : j = m - 1
          · subst hjm; exact Int.le_refl _
          · exact List.pairwise_iff_getElem.1 hs j (m - 1) hjl (by omega) (by omega)
        omega
      refine ⟨?_, ?_, ?_⟩
      · rw [List.pairwise_append]
        exact ⟨h1, by simp, fun a ha b hb => by simp at hb; rw [hb]; exact hlt a ha⟩
      · intro t ht
        rcases List.mem_append.1 ht with ht | ht
        · obtain ⟨j, hj, hjt⟩ := h2 t ht
          exact ⟨j, by omega, hjt⟩
        · simp at ht
          exact ⟨m, by omega, by rw [ht]; exact List.getElem?_eq_getElem hml⟩
      · intro j t hj hjt
        rw [List.mem_append]
        by_cases hjm : j = m
        · subst hjm
          rw [List.getElem?_eq_getElem hml] at hjt
          exact .inr (by simp; exact (Option.some.inj hjt).symm)
        · exact .inl (h3 j t (by omega) hjt)
    · have hk' : keeps zs.toArray m = false := by simpa using hk
      rw [if_neg hk, List.append_nil]
      refine ⟨h1, fun t ht => ?_, fun j t hj hjt => ?_⟩
      · obtain ⟨j, hj, hjt⟩ := h2 t ht
        exact ⟨j, by omega, hjt⟩
      · by_cases hjm : j = m
        · subst hjm
          have hm0 : 0 < j := by
            rcases Nat.eq_zero_or_pos j with h | h
            · subst h; rw [keeps_lt_one _ 0 (by omega)] at hk'; cases hk'
            · exact h
          have heq : zs.toArray[j]! = zs.toArray[j - 1]! := by
            apply Classical.byContradiction
            intro hn
            rw [keeps_pos hn] at hk'
            cases hk'
          rw [e, getElem!_pos zs.toArray (j - 1) (by simp; omega)] at heq
          refine h3 (j - 1) t (by omega) ?_
          rw [List.getElem?_eq_getElem hml] at hjt
          rw [List.getElem?_eq_getElem (by omega)]
          rw [← hjt, heq]
          simp
        · exact h3 j t (by omega) hjt
theorem compact_rising {zs : List Int} (hs : zs.Pairwise (· ≤ ·)) : (compact zs).Pairwise (· < ·) ∧ ∀ t, t ∈ compact zs ↔ t ∈ zs := by
  obtain ⟨h1, h2, h3⟩ := compactUpTo_rising hs zs.length (Nat.le_refl _)
  refine ⟨h1, fun t => ⟨fun ht => ?_, fun ht => ?_⟩⟩
  · obtain ⟨j, _, hj⟩ := h2 t ht
    exact List.mem_of_getElem? hj
  · obtain ⟨j, hj⟩ := List.getElem?_of_mem ht
    exact h3 j t (List.getElem?_eq_some_iff.1 hj).1 hj
/-- t holds a row's key, or waits for it. -/
def inRow (r : PRow) (t : Int) : Prop := t ∈ r.hs.map Prod.fst ∨ t ∈ r.ws
/-- What Txs is to answer. -/
structure TxsL (st : PS) (l : List Int) : Prop where
  up : l.Pairwise (· < ·)
  mem : ∀ t, t ∈ l ↔ ∃ k, inRow (st.row k) t
/-- What the loop has gathered. -/
def Heap (st : PS) (left : KeyT → Bool) (ts : List Int) : Prop := ∀ t, t ∈ ts ↔ ∃ k, left k = false ∧ inRow (st.row k) t
theorem Heap.start (st : PS) : Heap st (fun k => (st.rows k).isSome) [] := fun t => by
  constructor
  · intro h; cases h
  · rintro ⟨k, hk, h⟩
    have hk : (st.rows k).isSome = false := hk
    have : st.rows k = none := by cases hr : st.rows k; rfl; rw [hr] at hk; cases hk
    rw [none_row this] at h
    rcases h with h | h <;> simp at h
theorem Heap.take {st : PS} {left : KeyT → Bool} {ts : List Int} (h : Heap st left ts) {x : KeyT} (hl : left x = true) : Heap st (fun y => left y && !decide (y = x)) (ts ++ (st.row x).hs.map Prod.fst ++ (st.row x).ws) := fun t => by
  rw [List.mem_append, List.mem_append, h t]
  constructor
  · rintro ((⟨k, hk, hr⟩ | hr) | hr)
    · exact ⟨k, by show (left k && _) = false; rw [hk]; rfl, hr⟩
    · exact ⟨x, by simp, .inl hr⟩
    · exact ⟨x, by simp, .inr hr⟩
  · rintro ⟨k, hk, hr⟩
    by_cases e : k = x
    · subst e
      rcases hr with hr | hr
      · exact .inl (.inr hr)
      · exact .inr hr
    · exact .inl (.inl ⟨k, by simpa [e] using hk, hr⟩)
theorem Heap.done {st : PS} {left : KeyT → Bool} {ts : List Int} (h : Heap st left ts) (hl : ∀ x, left x = false) : TxsL st (compact (ts.mergeSort fun x y => decide (x ≤ y))) := by
  have hs : (ts.mergeSort fun x y => decide (x ≤ y)).Pairwise (fun x y => x ≤ y) := (List.pairwise_mergeSort (le := fun x y => decide (x ≤ y)) (fun a b c h1 h2 => by simp at *; omega) (fun a b => by simp; omega) ts).imp (fun h => by simpa using h)
  obtain ⟨h1, h2⟩ := compact_rising hs
  refine ⟨h1, fun t => ?_⟩
  rw [h2, (List.mergeSort_perm ts _).mem_iff, h t]
  exact ⟨fun ⟨k, _, hr⟩ => ⟨k, hr⟩, fun ⟨k, hr⟩ => ⟨k, hl k, hr⟩⟩
theorem inRow_len {r : PRow} {m : Nat} (h : r.hs.length + r.ws.length ≤ m) : (r.hs.map Prod.fst).length + r.ws.length ≤ m := by rw [List.length_map]; exact h
theorem ownsRow_cut {w : World} {base g n cap k : Nat} {e : TypeId} {xs : List Value} (h : w.ownsRow base e 1 (.slice (some ⟨g, 0, none⟩) n cap) n xs) (hk : k ≤ n) : w.ownsRow base e 1 (.slice (some ⟨g, 0, none⟩) k cap) k (xs.take k) := by
  obtain ⟨h1, h2⟩ := h
  refine ⟨by rw [List.length_take]; omega, ?_⟩
  rcases h2 with ⟨e0, _⟩ | ⟨g', cap', cur, e0, a1, a2, a3, a4, a5, a6⟩
  · cases e0
  · simp only [Value.slice.injEq, Option.some.injEq, Addr.mk.injEq, and_true, true_and] at e0
    obtain ⟨rfl, rfl⟩ := e0
    refine .inr ⟨g, cap, cur, rfl, a1, a2, by omega, a4, a5, ?_⟩
    rw [← a6, List.take_take]
    congr 1
    omega
theorem ints_compacted {W : World} {base g cap q : Nat} {cur : Array Value} {zs : List Int} (hbase : base ≤ g) (hb : W.heap[g]? = some (.cells cur 3 (0, 0))) (h1 : zs.length ≤ cap) (h2 : cap ≤ maxLen) (h3 : cur.size = cap * 1) :
    IntsAt (putRow (Value.int .i64) (Sort.ahead W q) g 0 (compact zs ++ List.replicate (zs.length - (compact zs).length) 0).toArray) base (.slice (some ⟨g, 0, none⟩) (compact zs).length cap) (compact zs) := by
  have hcl : (compact zs).length ≤ zs.length := by
    unfold compact compactUpTo
    rw [List.length_map]
    exact Nat.le_trans (List.length_filter_le _ _) (by simp)
  have h := ownsRow_sortedI (w := W) (base := base) (n := q) (os := #[]) (ss := zs) (ts := compact zs ++ List.replicate (zs.length - (compact zs).length) 0) (by simp; omega) hbase hb h1 h2 h3
  rw [Go.Sort.grow_empty] at h
  have h' := ownsRow_cut h hcl
  rw [List.map_append, List.take_append_of_le_length (by simp), List.take_of_length_le (by simp)] at h'
  exact h'
set_option maxRecDepth 100000 in
set_option maxHeartbeats 4000000 in
theorem txs_any (F : Nat → Prop) (tb m : Nat) (st : PS) (w : World) (h : LockAt w F tb m st) (hm : m ≤ 1000) :
    Calls Try.prog 29 #[.pointer (some ⟨tb, 0, none⟩)] w fun e w' => ∃ v l, e = .returned v ∧ IntsAt w' w.heap.size v l ∧ TxsL st l ∧ Below w.heap.size w w' := by
  obtain ⟨_, rb, wb, g, h⟩ := h
  have rl := h.rbl
  have tl := h.tbl
  have c1 := h.c1
  have HT := Lib.hid h
  obtain ⟨i0, hi, hz0, hz1, hz2⟩ := info_parts infoInt
  clear h
  go_enter Try.func29, Try.ntmps29
  go_wp2_with (first
    | (at_range; refine wpList_range_map kindKey rfl _ 55 rfl 64 Try.underlying55 rb m (rowF st g) rfl HT.out.map1 ?_; intro w0 cnt0 hcnt0 hrg0 hg0 hs0)
    | fail)
  go_frame
  have hb0 : Below w.heap.size w w0 := (Below.refl _ w).grown hg0 (Nat.le_refl _) (fun k e => by cases e)
  go_loopw [3] (fun v wr => ∃ (left : KeyT → Bool) (cnt : Nat) (ls : List Int), Hid (RangeAt Try.prog 24 (fun _ => True) kLit wr rb w.heap.size m (rowF st g) left cnt) ∧ wr.ownsRow (w.heap.size + 1) 3 1 v ls.length (ls.map (Value.int .i64)) ∧ Hid (Heap st left ls) ∧ Hid (ls.length + cnt * 1000 ≤ m * 1000) ∧ Below w.heap.size w wr ∧ w.heap.size + 1 ≤ wr.heap.size)
    (fun _ wr => wr.rangeLeft rb w.heap.size)
  case atStart => exact ⟨_, cnt0, [], Lib.hid hrg0, World.ownsRow_nil _ _ _ _, Lib.hid (by have := Heap.start st; simpa [rowF] using this), Lib.hid (by simp; omega), hb0, by omega⟩
  case round =>
    obtain ⟨left, cnt, ls, HR, hrow, HG, HLN, hbl, hsr⟩ := hrel
    go_wp2_with (first
      | (at_next; refine wpList_next_map kindKey rfl _ rfl rb w.heap.size m (rowF st g) left cnt rfl HR.out ?_ ?_)
      | fail)
    · intro _ hl0
      have HL := Lib.hid (HG.out.done hl0)
      have hl2 : (ls.mergeSort fun x y => decide (x ≤ y)).length = ls.length := List.length_mergeSort ls
      have hll := HLN.out
      rcases hrow.2 with ⟨hnil, hk0⟩ | ⟨gb, cap, cur, hv, hbase, hb, h1, h2, h3, h4⟩
      · subst hnil
        obtain rfl : ls = [] := List.eq_nil_of_length_eq_zero hk0
        clear hrow
        go_wp2_with (first | (go_at_call 52; refine (Try.slices_Sort_int_none none 0 _).mono ?_; rintro e w' ⟨rfl, rfl⟩) | (go_at_call 53; refine (Try.slices_Compact_int_empty none 0 _).mono ?_; rintro e w' ⟨rfl, rfl⟩))
        go_ret
        exact ⟨.slice none 0 0, [], rfl, World.ownsRow_nil _ _ _ _, by have := HL.out; simpa [compact, compactUpTo] using this, hbl⟩
      · subst hv
        have hH : Holds (Value.int .i64) wr gb 0 ls.toArray := holds_of_blockI hb (by simpa using h4)
        have hgl : gb < wr.heap.size := (Array.getElem?_eq_some_iff.1 hb).1
        have HS := Lib.hid (Try.slices_Sort_int gb 0 cap ls wr hH hgl (by omega))
        have HHB := Lib.hid (fun nn os => heap_sortedI (n := nn) (os := os) (ls.mergeSort fun x y => decide (x ≤ y)).toArray hb)
        have HG2 := Lib.hid (fun nn os => grownBy_sortedI (w := wr) (g := gb) (n := nn) (os := os) (ls.mergeSort fun x y => decide (x ≤ y)).toArray)
        have HTK := Lib.hid (take_putCellsI cur (ls.mergeSort fun x y => decide (x ≤ y)) (by omega))
        have hcs : (putCells (Value.int .i64) 0 (ls.mergeSort fun x y => decide (x ≤ y)).toArray cur).size = cap * 1 := by simp [putCells, h3]
        have HCS := Lib.hid hcs
        have hbig : ls.length ≤ 9223372036854775807 := by omega
        obtain ⟨zs, hz⟩ : ∃ zs, (ls.mergeSort fun x y => decide (x ≤ y)) = zs := ⟨_, rfl⟩
        rw [hz] at HS HHB HG2 HTK HCS HL hl2
        have HL2 := Lib.hid hl2
        clear hrow hH h4 hb h3 hz hcs hl2
        go_wp2_with (first | (go_at_call 52; refine HS.out.mono ?_; rintro e w' ⟨rfl, nn, os, rfl⟩) | fail)
        have HHW := Lib.hid (HHB.out nn os)
        have HGW := Lib.hid (HG2.out nn os)
        generalize Go.Sort.grow (putRow (Value.int .i64) (Sort.ahead wr nn) gb 0 zs.toArray) os = W at *
        have hc := Try.slices_Compact_int gb 0 cap zs W (holds_of_blockI HHW.out (by rw [HTK.out])) (by rw [HL2.out]; exact hbig) (by rw [HL2.out]; exact h1)
        rw [HL2.out] at hc
        refine hc.mono ?_
        rintro e w' ⟨rfl, q, rfl⟩
        go_wp2_with fail
        go_ret
        have hI := ints_compacted (q := q) (zs := zs) (by omega : w.heap.size ≤ gb) HHW.out (by rw [HL2.out]; exact h1) h2 HCS.out
        rw [HL2.out] at hI
        refine ⟨_, _, rfl, hI, HL.out, ?_⟩
        have hb2 : Below w.heap.size w W := hbl.grown HGW.out hbl.size (fun k e => by injection e with e; omega)
        have hg2 := grownBy_sortedI (w := W) (g := gb) (n := q) (os := #[]) (compact zs ++ List.replicate (ls.length - (compact zs).length) 0).toArray
        rw [Go.Sort.grow_empty] at hg2
        exact hb2.grown hg2 hb2.size (fun k e => by injection e with e; omega)
    · intro x v w1 cnt1 hlx hfx hrg1 hlt hg1 hs1 hen
      obtain ⟨r, hr, rfl⟩ : ∃ r, st.rows x = some r ∧ v = g x := by
        unfold rowF at hfx
        cases hp : st.rows x with
        | none => rw [hp] at hfx; cases hfx
        | some r => rw [hp] at hfx; exact ⟨r, rfl, (Option.some.inj hfx).symm⟩
      have hbl1 : Below w.heap.size w w1 := hbl.grown hg1 hbl.size (fun k e => by injection e with e; omega)
      have hrow1 : w1.ownsRow (w.heap.size + 1) 3 1 u3 ls.length (ls.map (Value.int .i64)) := hrow.kept hg1 (.inr fun e => by have := (hrow.lt _ e).1; omega)
      obtain ⟨hr1, hr2, hr3⟩ := HT.out.rows x r trivial hr
      have hr1' := hr1.kept (w' := w1) (fun b hb => hbl1.block b (HT.out.lt b (hr3 b hb).1))
      have HQ := Lib.hid (show st.row x = r by unfold PS.row; rw [hr]; rfl)
      have HLT := Lib.hid (show ∀ b, BlkOf (g x) b → b < w.heap.size from fun b hb => HT.out.lt b (hr3 b hb).1)
      have HTK := Lib.hid (HG.out.take hlx)
      rw [HQ.out] at HTK
      obtain ⟨A, n, c', A', n', c'', e1, rfl, rfl⟩ := hr1'.parts
      rw [e1] at hen hr1' HLT
      have HRA := Lib.hid hr1'
      have HR1 := Lib.hid hrg1
      have hle1 := Lib.hid (RangeAt.left_eq HR.out)
      have hs2 := hbl1.size
      have hs3 : w.heap.size + 1 ≤ w1.heap.size := by omega
      have HLEN := Lib.hid (show ls.length + r.hs.length + r.ws.length + cnt1 * 1000 ≤ m * 1000 by have := HLN.out; omega)
      have HL3 := Lib.hid hlt
      have HR2 := Lib.hid hr2
      clear hfx hrg1 hg1 hbl hrow hs1 hsr hr1 hr1' hr3 e1 hr hr2 hlt
      have hVb : Below w1.heap.size w1 ((w1.alloc (.cells #[.slice A r.hs.length c', .slice A' r.ws.length c''] 64))) := (Below.refl _ w1).alloc (Nat.le_refl _) _
      have v0 : ((w1.alloc (.cells #[.slice A r.hs.length c', .slice A' r.ws.length c''] 64))).cell? ⟨w1.heap.size, 0, none⟩ = some (.slice A r.hs.length c') := by rw [World.cell?_alloc_new]; rfl
      have v1 : ((w1.alloc (.cells #[.slice A r.hs.length c', .slice A' r.ws.length c''] 64))).cell? ⟨w1.heap.size, 1, none⟩ = some (.slice A' r.ws.length c'') := by rw [World.cell?_alloc_new]; rfl
      have hVs : w1.heap.size < ((w1.alloc (.cells #[.slice A r.hs.length c', .slice A' r.ws.length c''] 64))).heap.size := by simp
      have HRV := Lib.hid (HR1.out.blocks (w' := ((w1.alloc (.cells #[.slice A r.hs.length c', .slice A' r.ws.length c''] 64)))) (hVb.block rb (by omega)) (hVb.block _ (by omega)))
      have hrowV := hrow1.alloc (.cells #[.slice A r.hs.length c', .slice A' r.ws.length c''] 64)
      go_wp2_with fail
      have hblV : Below w.heap.size w ((w1.alloc (.cells #[.slice A r.hs.length c', .slice A' r.ws.length c''] 64))) := hbl1.trans (hVb.mono hs2)
      have HUB := Lib.hid (show ∀ b, u3.ownBlock = some b → w.heap.size + 1 ≤ b ∧ b < w1.heap.size from fun b hb => ⟨(hrow1.lt b hb).1, (hrow1.lt b hb).2⟩)
      have HHV := Lib.hid (HRA.out.hold.below hVb)
      have HWV := Lib.hid (HRA.out.wait.below hVb)
      have HBV := Lib.hid hblV
      generalize ((w1.alloc (.cells #[.slice A r.hs.length c', .slice A' r.ws.length c''] 64))) = V at *
      generalize hN : r.hs.length = N at *
      have HN := Lib.hid hN
      clear hN hblV hrow1 hen hVb
      have hsV : w.heap.size + 1 < V.heap.size := by omega
      generalize u3 = vo at *
      go_loopg [3, 20] N (fun gg s3 s20 wq => ∃ kk : Nat, kk ≤ N ∧ N - kk ≤ gg ∧ s20 = .int .i64 kk ∧ wq.ownsRow (w.heap.size + 1) 3 1 s3 (ls.length + kk) ((ls ++ (r.hs.take kk).map Prod.fst).map (Value.int .i64)) ∧ Hid (Moves (fun b => vo.ownBlock = some b) V wq) ∧ Hid (∀ b, s3.ownBlock = some b → vo.ownBlock = some b ∨ V.heap.size ≤ b))
      case atStart => exact ⟨0, Nat.zero_le _, by omega, rfl, by simpa using hrowV, Lib.hid (moves_of_below (Below.refl _ V)), Lib.hid (fun b hb => .inl hb)⟩
      case round =>
        obtain ⟨kk, hkk, hgg, rfl, hrq, MQ, HOQ⟩ := hrel
        by_cases hlt : kk < N
        · have hltz : (kk : Int) < (N : Int) := by omega
          obtain ⟨y, hy⟩ : ∃ y, r.hs[kk]? = some y := ⟨_, List.getElem?_eq_getElem (by have := HN.out; omega)⟩
          have htk : r.hs.take (kk + 1) = r.hs.take kk ++ [y] := by rw [List.take_add_one, hy]; rfl
          have HTY := Lib.hid htk
          have hll := HLEN.out
          rcases HHV.out.out with ⟨e, e2⟩ | ⟨hb, cap, e, h1, h2, h3, h4⟩
          · rw [e2] at hy; cases hy
          · simp only [Value.slice.injEq] at e
            obtain ⟨rfl, -, rfl⟩ := e
            have hbo : hb < w.heap.size := HLT.out hb ⟨_, _, rfl, .inl rfl⟩
            have hkp : ∀ b, b < w.heap.size → wr.heap[b]? = V.heap[b]? := fun b hb' => MQ.out.block b (by omega) (fun e => by have := (HUB.out b e).1; omega)
            have c0 : wr.cell? ⟨hb, kk * 2, none⟩ = some (.int .i64 y.1) := (World.cell?_of_block (a := ⟨hb, kk * 2, none⟩) (hkp hb hbo)).trans (h4 kk y hy).1
            have c1 : wr.cell? ⟨hb, kk * 2 + 1, none⟩ = some (.int .i64 y.2) := (World.cell?_of_block (a := ⟨hb, kk * 2 + 1, none⟩) (hkp hb hbo)).trans (h4 kk y hy).2
            have hqs := MQ.out.size
            have hNb : N ≤ 9223372036854775807 := by omega
            generalize hy1 : y.1 = y1 at *
            generalize y.2 = y2 at *
            have HY1 := Lib.hid hy1
            have HNB := Lib.hid (show ∀ o : Obj, ((wr.alloc o).alloc (.cells #[.int .i64 y1] 3)).heap[wr.heap.size + 1]? = some (.cells #[.int .i64 y1] 3 (0, 0)) from fun o => by have := heap_alloc_new (wr.alloc o) (.cells #[.int .i64 y1] 3); rwa [World.size_alloc] at this)
            clear h4 hkp hy htk hy1 v0 v1
            go_wp2_with (first
              | (at_builtin; refine wpList_append_own_at _ rfl _ _ 46 rfl (w.heap.size + 1) 3 i0 (.int .i64 0) 1 8 Try.underlying46 hi hz0 hz1 hz2 rfl (by decide) _ (ls.length + kk) _ rfl ((hrq.alloc _).alloc _) ⟨wr.heap.size + 1, 0, none⟩ 1 1 [.int .i64 y1] rfl rfl (World.news_of_block (cs := #[.int .i64 y1]) (t := 3) (fr := (0, 0)) (HNB.out _)) (by simp [Value.oneCell']) (by simp only [maxLen]; omega) (by omega) (by simp; omega) ?_; intro v' w3 hown' hgrow _ hat)
              | fail)
            have hgs := hgrow.size
            have hM3 : Moves (fun b => vo.ownBlock = some b) V w3 := ((MQ.out.trans (moves_of_below (F := fun b => vo.ownBlock = some b) (((Below.refl _ wr).alloc (Nat.le_refl _) (.cells #[.int .i64 y1, .int .i64 y2] 83)).alloc (by simp) (.cells #[.int .i64 y1] 3))) fun _ e => .inl e)).trans (F' := fun b => vo.ownBlock = some b ∨ V.heap.size ≤ b) (moves_of_grown hgrow (fun b e => HOQ.out b e)) (fun b e => e)
            go_roundg (N - (kk + 1))
            case measure => omega
            case rel =>
              refine ⟨kk + 1, by omega, by omega, by go_num, ?_, Lib.hid hM3, Lib.hid (fun b hb => hat.elim (fun e => HOQ.out b (e ▸ hb)) (fun e => .inr (by rw [e] at hb; simp at hb; omega)))⟩
              have e : (ls ++ (r.hs.take (kk + 1)).map Prod.fst).map (Value.int .i64) = (ls ++ (r.hs.take kk).map Prod.fst).map (Value.int .i64) ++ [Value.int .i64 y1] := by rw [HTY.out, ← HY1.out]; simp
              rw [e, ← Nat.add_assoc]
              exact hown'
        · obtain rfl : kk = N := by omega
          have hta : r.hs.take kk = r.hs := by rw [← HN.out]; exact List.take_length
          rw [hta] at hrq
          have hqs := MQ.out.size
          have hll := HLEN.out
          have hkp : ∀ b, b < w.heap.size + 1 → wr.heap[b]? = V.heap[b]? := fun b hb' => MQ.out.block b (by omega) (fun e => by have := (HUB.out b e).1; omega)
          have v1' : wr.cell? ⟨w1.heap.size, 1, none⟩ = some (.slice A' r.ws.length c'') := (World.cell?_of_block (a := ⟨w1.heap.size, 1, none⟩) (MQ.out.block w1.heap.size hVs (fun e => by have := (HUB.out _ e).2; omega))).trans v1
          have HRQ := Lib.hid (HRV.out.blocks (hkp rb (by omega)) (hkp w.heap.size (by omega)))
          have hblq : Below w.heap.size w wr := ⟨MQ.out.os.trans HBV.out.os, MQ.out.tape.trans HBV.out.tape, MQ.out.output.trans HBV.out.output, by have := HBV.out.size; omega, fun b hb => (hkp b (by omega)).trans (HBV.out.block b hb)⟩
          have HWQ := Lib.hid (HWV.out.kept (w' := wr) fun b hb => hkp b (by have := HLT.out b ⟨_, _, rfl, .inr hb⟩; omega))
          have hlr : w1.heap.size < wr.heap.size := by omega
          have HLQ := Lib.hid (show (ls ++ r.hs.map Prod.fst).length = ls.length + kk by rw [List.length_append, List.length_map, HN.out])
          clear v0 v1 hkp hta
          rcases HWQ.out.out with ⟨e, e2⟩ | ⟨gw, off, cap, e, h1, h2, h3, h4⟩
          · simp only [Value.slice.injEq] at e
            obtain ⟨rfl, e5, rfl⟩ := e
            have HE2 := Lib.hid e2
            rw [e5] at v1'
            clear e2 e5
            go_wp2_with (first
              | (at_builtin; refine wpList_append_own_none rfl _ _ 46 rfl (w.heap.size + 1) 3 i0 1 Try.underlying46 hi _ (ls.length + kk) _ rfl hrq rfl ?_)
              | fail)
            go_roundw
            case rel => exact ⟨_, cnt1, ls ++ r.hs.map Prod.fst, HRQ, by rw [HLQ.out]; exact hrq, Lib.hid (by have := HTK.out; rw [HE2.out, List.append_nil] at this; exact this), Lib.hid (by rw [HLQ.out]; omega), hblq, by omega⟩
            case measure => rw [RangeAt.left_eq HRQ.out, hle1.out]; exact HL3.out
          · simp only [Value.slice.injEq] at e
            obtain ⟨rfl, -, rfl⟩ := e
            have hnw : ∀ j u, (r.ws.map (Value.int .i64))[j]? = some u → wr.cell? ((⟨gw, off, none⟩ : Addr).add j) = some u := fun j u hj => by
              have e : (⟨gw, off, none⟩ : Addr).add j = ⟨gw, off + j, none⟩ := by unfold Addr.add; split <;> simp_all
              rw [List.getElem?_map] at hj
              cases hw : r.ws[j]? with
              | none => rw [hw] at hj; cases hj
              | some t => rw [hw] at hj; cases hj; rw [e]; exact h4 j t hw
            have HNW := Lib.hid hnw
            clear hnw h4
            go_wp2_with (first
              | (at_builtin; refine wpList_append_own_at _ rfl _ _ 46 rfl (w.heap.size + 1) 3 i0 (.int .i64 0) 1 8 Try.underlying46 hi hz0 hz1 hz2 rfl (by decide) _ (ls.length + kk) _ rfl hrq ⟨gw, off, none⟩ r.ws.length c'' (r.ws.map (Value.int .i64)) rfl (by simp) HNW.out (by intro u hu; obtain ⟨t, _, rfl⟩ := List.mem_map.1 hu; rfl) (by simp only [maxLen]; omega) (by omega) (by omega) ?_; intro v' w3 hown' hgrow _ hat)
              | fail)
            have hgs := hgrow.size
            have hb3 : Below w.heap.size w w3 := hblq.grown hgrow hblq.size (fun k e => by have := (hrq.lt k e).1; omega)
            have hkb : ∀ b, b < w.heap.size + 1 → w3.heap[b]? = wr.heap[b]? := fun b hb => hgrow.block b (by omega) (fun e => by have := (hrq.lt b e.symm).1; omega)
            have HR3 := Lib.hid (HRQ.out.blocks (hkb rb (by omega)) (hkb w.heap.size (by omega)))
            go_roundw
            case rel => exact ⟨_, cnt1, ls ++ r.hs.map Prod.fst ++ r.ws, HR3, by rw [List.length_append, HLQ.out, List.map_append]; exact hown', HTK, Lib.hid (by rw [List.length_append, HLQ.out]; omega), hb3, by omega⟩
            case measure => rw [RangeAt.left_eq HR3.out, hle1.out]; exact HL3.out
end Go.Proofs.Ytnfodidfhnofkaa
