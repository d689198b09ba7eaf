/- A row of locks: release (slices.DeleteFunc of holders). -/
import Derived.Test.YtnfodidfhnofkaaBi
import Derived.Lib.SliceRun
namespace Go.Proofs.Ytnfodidfhnofkaa
open Go.RowKit Go.Deep Go.Maps

theorem setCells_heap {b : Nat} {t : TypeId} : ∀ (vs : List Value) (o : Nat) (w : World) (cs : Array Value), w.heap[b]? = some (.cells cs t (0, 0)) → ∃ cs', (w.setCells b o vs).heap[b]? = some (.cells cs' t (0, 0)) ∧ cs'.size = cs.size ∧ ∀ j, j < o → cs'[j]? = cs[j]?
  | [], o, w, cs, h => ⟨cs, h, rfl, fun _ _ => rfl⟩
  | v :: vs, o, w, cs, h => by
    obtain ⟨cs', h1, h2, h3⟩ := setCells_heap vs (o + 1) (w.setCell ⟨b, o, none⟩ v) _ (setCell_heap h)
    refine ⟨cs', h1, by rw [h2]; simp, fun j hj => ?_⟩
    rw [h3 j (by omega), Array.getElem?_setIfInBounds, if_neg (by omega)]
theorem moves_setCells (F : Nat → Prop) (b : Nat) (h : F b) : ∀ (vs : List Value) (o : Nat) (w : World), Moves F w (w.setCells b o vs)
  | [], _, w => Moves.refl F w
  | v :: vs, o, w => (moves_setCell F w ⟨b, o, none⟩ v h).trans (moves_setCells F b h vs (o + 1) _) (fun _ hi => .inl hi)
theorem HoldAt.cut {w w' : World} {g n cap i : Nat} {dl : List (Int × Int)} {vs : List Value} (h : HoldAt w (.slice (some ⟨g, 0, none⟩) n cap) dl) (hi : i ≤ dl.length) (hw : w'.heap[g]? = (w.setCells g (i * 2) vs).heap[g]?) : HoldAt w' (.slice (some ⟨g, 0, none⟩) i cap) (dl.take i) := by
  have hl : (dl.take i).length = i := by rw [List.length_take]; omega
  rcases h.2 with ⟨e, _⟩ | ⟨g', cap', cur, e, hb0, hh, hnc, hcm, hsz, htk⟩
  · cases e
  · simp only [Value.slice.injEq, Option.some.injEq, Addr.mk.injEq, and_true] at e
    obtain ⟨rfl, rfl, rfl⟩ := e
    obtain ⟨cs', h1, h2, h3⟩ := setCells_heap vs (i * 2) w cur hh
    refine ⟨by rw [flat_hc_len], .inr ⟨g, cap, cs', by rw [hl], hb0, hw.trans h1, by rw [hl]; omega, hcm, by rw [h2, hsz], ?_⟩⟩
    rw [hl]
    have e1 : cs'.toList.take (i * 2) = cur.toList.take (i * 2) := by
      apply List.ext_getElem?
      intro j
      by_cases hj : j < i * 2
      · rw [List.getElem?_take_of_lt hj, List.getElem?_take_of_lt hj, Array.getElem?_toList, Array.getElem?_toList, h3 j hj]
      · rw [List.getElem?_eq_none (by rw [List.length_take]; omega), List.getElem?_eq_none (by rw [List.length_take]; omega)]
    have e2 : cur.toList.take (i * 2) = (cur.toList.take (dl.length * 2)).take (i * 2) := by rw [List.take_take, Nat.min_eq_left (by omega)]
    rw [e1, e2, htk]
    exact flat_take hi
where flat_take : ∀ {dl : List (Int × Int)} {i : Nat}, i ≤ dl.length → (dl.flatMap hc).take (i * 2) = (dl.take i).flatMap hc
  | _, 0, _ => by simp
  | [], i + 1, h => by simp at h
  | p :: t, i + 1, h => by
    rw [List.flatMap_cons, List.take_succ_cons, List.flatMap_cons, ← flat_take (by simpa using h), show (i + 1) * 2 = 2 + i * 2 by omega]
    rw [show 2 + i * 2 = (hc p).length + i * 2 from rfl, List.take_length_add_append]
theorem run_clear2 {P : Program} (w : World) (t e ty : TypeId) (ht : P.underlying t = some (.slice e)) (hv : ∀ w, (zeroValue e).run P w = .ok (.agg #[.int .i64 0, .int .i64 0]) w) (b o n c : Nat)
    (hc : ∀ j, j < n * 2 → (w.cell? ⟨b, o + j, none⟩).isSome = true) (hf : ∀ j, j < n * 2 → w.frozen? ⟨b, o + j, none⟩ = false) :
    (Builtin.clear_ #[t] ty #[.slice (some ⟨b, o, none⟩) n c]).run P w = .ok (.tuple #[]) (w.setCells b o (List.replicate (n * 2) (.int .i64 0))) := by
  have hzc : (Builtin.zeroCells (Value.agg #[.int .i64 0, .int .i64 0]).cells n).toList = List.replicate (n * 2) (.int .i64 0) := by
    apply List.ext_getElem
    · simp [Builtin.zeroCells, Value.cells]
    · intro i h1 h2
      simp [Builtin.zeroCells, Value.cells]
      have : i % 2 = 0 ∨ i % 2 = 1 := by omega
      rcases this with h | h <;> simp [h]
  have hst := run_storeCells_cells (P := P) b o (List.replicate (n * 2) (.int .i64 0)) 0 w (by simpa using hc) (by simpa using hf) (by intro v hv'; rw [List.eq_of_mem_replicate hv']; rfl)
  simp only [Nat.add_zero] at hst
  match n with
  | 0 => simp [Builtin.clear_, run_underlying ht]; rfl
  | n + 1 => simp [Builtin.clear_, run_underlying ht, hv, hzc, hst]
/-- The slice of those that are kept. -/
def HoldCells (w : World) (g n : Nat) : Prop := ∀ j, j < n * 2 → (w.cell? ⟨g, j, none⟩).isSome = true ∧ w.frozen? ⟨g, j, none⟩ = false
theorem HoldAt.cells {w : World} {g n cap : Nat} {dl : List (Int × Int)} (h : HoldAt w (.slice (some ⟨g, 0, none⟩) n cap) dl) : HoldCells w g n := by
  rcases h.2 with ⟨e, _⟩ | ⟨g', cap', cur, e, hb0, hh, hnc, hcm, hsz, htk⟩
  · cases e
  · simp only [Value.slice.injEq, Option.some.injEq, Addr.mk.injEq, and_true] at e
    obtain ⟨rfl, rfl, rfl⟩ := e
    intro j hj
    rw [cell_of_row w g j cur _ _ hh]
    refine ⟨?_, by simp [World.frozen?, hh]⟩
    rw [Array.getElem?_eq_getElem (by omega)]; rfl
/-- So far: the first i are those kept of the first j, from j on all is as it was. -/
structure Kept (tx : Int) (hs dl : List (Int × Int)) (i j : Nat) : Prop where
  len : dl.length = hs.length
  lt : i < j
  le : j ≤ hs.length
  kept : dl.take i = releaseH (hs.take j) tx
  rest : dl.drop j = hs.drop j
theorem Kept.size {tx : Int} {hs dl : List (Int × Int)} {i j : Nat} (h : Kept tx hs dl i j) : i = (releaseH (hs.take j) tx).length := by
  have := congrArg List.length h.kept
  rw [List.length_take, h.len] at this
  have := h.lt; have := h.le
  omega
theorem Kept.start {tx q : Int} {hs : List (Int × Int)} {k : Nat} (hk : hs[k]? = some (tx, q)) (hn : ∀ j y, j < k → hs[j]? = some y → y.1 ≠ tx) : Kept tx hs hs k (k + 1) := by
  have hl : k < hs.length := (List.getElem?_eq_some_iff.1 hk).1
  refine ⟨rfl, by omega, by omega, ?_, rfl⟩
  rw [List.take_succ_eq_append_getElem hl, releaseH, List.filter_append]
  have e : hs[k] = (tx, q) := by rw [List.getElem?_eq_getElem hl] at hk; exact Option.some.inj hk
  rw [e]
  have : List.filter (fun h : Int × Int => h.1 != tx) [(tx, q)] = [] := by simp
  rw [this, List.append_nil]
  symm
  refine List.filter_eq_self.2 fun p hp => ?_
  obtain ⟨j, hj⟩ := List.getElem?_of_mem hp
  have hjk : j < k := by
    rcases Nat.lt_or_ge j k with h | h
    · exact h
    · rw [List.getElem?_eq_none (by rw [List.length_take]; omega)] at hj; cases hj
  rw [List.getElem?_take_of_lt hjk] at hj
  simpa using hn j p hjk hj
theorem Kept.read {tx : Int} {hs dl : List (Int × Int)} {i j : Nat} (h : Kept tx hs dl i j) {y : Int × Int} (hy : hs[j]? = some y) : dl[j]? = some y := by
  have := congrArg (fun l => l[0]?) h.rest
  simpa [hy] using this
theorem Kept.skip {tx : Int} {hs dl : List (Int × Int)} {i j : Nat} (h : Kept tx hs dl i j) {y : Int × Int} (hy : hs[j]? = some y) (hx : y.1 = tx) : Kept tx hs dl i (j + 1) := by
  have hl : j < hs.length := (List.getElem?_eq_some_iff.1 hy).1
  have e : hs[j] = y := by rw [List.getElem?_eq_getElem hl] at hy; exact Option.some.inj hy
  refine ⟨h.len, by have := h.lt; omega, by omega, ?_, ?_⟩
  · rw [h.kept, List.take_succ_eq_append_getElem hl, releaseH, releaseH, List.filter_append, e]
    simp [hx]
  · have := congrArg (List.drop 1) h.rest
    simpa [List.drop_drop] using this
theorem Kept.store {tx : Int} {hs dl : List (Int × Int)} {i j : Nat} (h : Kept tx hs dl i j) {y : Int × Int} (hy : hs[j]? = some y) (hx : y.1 ≠ tx) : Kept tx hs (dl.set i y) (i + 1) (j + 1) := by
  have hl : j < hs.length := (List.getElem?_eq_some_iff.1 hy).1
  have e : hs[j] = y := by rw [List.getElem?_eq_getElem hl] at hy; exact Option.some.inj hy
  have hlt := h.lt
  have hil : i < dl.length := by rw [h.len]; omega
  refine ⟨by rw [List.length_set, h.len], by omega, by omega, ?_, ?_⟩
  · rw [List.take_succ_eq_append_getElem hl, releaseH, List.filter_append, e]
    have := h.kept
    unfold releaseH at this
    rw [← this]
    rw [List.take_succ_eq_append_getElem (by rw [List.length_set]; exact hil), List.take_set, List.getElem_set_self, List.set_eq_of_length_le (by rw [List.length_take]; omega)]
    simp [hx]
  · rw [List.drop_set_of_lt (by omega)]
    have := congrArg (List.drop 1) h.rest
    simpa [List.drop_drop] using this
theorem entersRelease : ∀ args w, (callFunc 66 args).run Try.prog w = .ok (.enter 66 args) w := Go.Proofs.enters_of Try.func66 (by kernel_rfl) rfl
set_option maxRecDepth 100000 in
set_option maxHeartbeats 2000000 in
/-- slices.DeleteFunc of the holders that are tx. -/
theorem delete_holders (hv : Value) (hs : List (Int × Int)) (tb : Nat) (tx : Int) (w : World) (h : HoldAt w hv hs) (ht : w.cell? ⟨tb, 0, none⟩ = some (.int .i64 tx)) (hne : hv.ownBlock ≠ some tb) :
    Calls Try.prog 65 #[hv, .func (.func 66) #[] #[.pointer (some ⟨tb, 0, none⟩)]] w fun e w' => ∃ hv', e = .returned hv' ∧ HoldAt w' hv' (releaseH hs tx) ∧ hv'.ownBlock = hv.ownBlock ∧ Moves (fun k => hv.ownBlock = some k) w w' := by
  have H := Lib.hid h
  have htl := World.block_lt_of_cell? w _ ht
  have HP := Lib.hid (pred_release tb tx hs w htl ht)
  rcases placeH_spec hs tx with ⟨h1, _, h3⟩ | ⟨k, q, h1, h2, _⟩
  · have HR := Lib.hid (release_no h3)
    have H1 := Lib.hid h1
    clear h1 h3 h
    go_enter Try.func65, Try.ntmps65
    go_wp2_with fail
    refine (idx_holders hv hs _ _ _ entersRelease _ w H.out HP.out H1.out).mono ?_
    rintro e w1 ⟨rfl, hb⟩
    have HB := Lib.hid hb
    clear hb
    go_wp2_with fail
    go_ret
    exact ⟨_, rfl, by rw [HR.out]; exact H.out.below HB.out, rfl, moves_of_below HB.out⟩
  · have hk : k < hs.length := (List.getElem?_eq_some_iff.1 h2).1
    rcases h.out with ⟨_, e⟩ | ⟨g, cap, rfl, a1, a2, a3, a4⟩
    · rw [e] at hk; simp at hk
    · have hgt : g ≠ tb := fun e => hne (by rw [e]; rfl)
      have hbig : hs.length ≤ 9223372036854775807 := by unfold maxLen at a2; omega
      have hne1 : ((k : Int) == -1) = false := beq_eq_false_iff_ne.2 (by omega)
      have HK0 := Lib.hid (show Kept tx hs hs k (k + 1) from Kept.start h2 (fun j y hj hy e => by
        have := idxF_ahead h1 hj hy
        simp [e] at this))
      obtain ⟨n, hn⟩ : ∃ n, n = hs.length := ⟨_, rfl⟩
      have HN := Lib.hid hn
      have H1 := Lib.hid h1
      have HT := Lib.hid ht
      rw [← hn] at a1 hbig hk h ⊢
      have HH := Lib.hid h
      clear a4 a2 h2 h h1 hne hn ht H
      go_enter Try.func65, Try.ntmps65
      go_wp2_with fail
      refine (idx_holders _ hs _ _ _ entersRelease _ w HH.out HP.out H1.out).mono ?_
      rintro e w1 ⟨rfl, hb⟩
      have HB := Lib.hid hb
      clear hb
      go_wp2_with fail
      go_loopg [5, 6, 7] n (fun gg s5 s6 _ wr => ∃ (i j : Nat) (dl : List (Int × Int)), s5 = .int .i64 i ∧ s6 = .int .i64 j ∧ j ≤ n ∧ i < j ∧ n - j ≤ gg ∧ Hid (Kept tx hs dl i j) ∧ Hid (HoldAt wr (.slice (some ⟨g, 0, none⟩) n cap) dl) ∧ Hid (Moves (· = g) w wr))
      case atStart => exact ⟨k, k + 1, hs, rfl, by go_num, by omega, by omega, by omega, HK0, Lib.hid (HH.out.below HB.out), Lib.hid (moves_of_below HB.out)⟩
      case round =>
        obtain ⟨i, j, dl, rfl, rfl, hjn, hij, hgg, HK, HD, HM⟩ := hrel
        have hgw : g < wr.heap.size := Nat.lt_of_lt_of_le a3 HM.out.size
        by_cases hlt : j < n
        · have hltz : (j : Int) < (n : Int) := by omega
          obtain ⟨y, hy⟩ : ∃ y, hs[j]? = some y := ⟨_, List.getElem?_eq_getElem (by have := HN.out; omega)⟩
          obtain ⟨c0, c1⟩ : wr.cell? ⟨g, j * 2, none⟩ = some (.int .i64 y.1) ∧ wr.cell? ⟨g, j * 2 + 1, none⟩ = some (.int .i64 y.2) := by
            rcases HD.out.out with ⟨e, _⟩ | ⟨g', cap', e, _, _, _, a4⟩
            · cases e
            · simp only [Value.slice.injEq, Option.some.injEq, Addr.mk.injEq, and_true] at e
              obtain ⟨rfl, _⟩ := e
              exact a4 j y (HK.out.read hy)
          have HY := Lib.hid hy
          have HC := Lib.hid HD.out.cells
          have htw : wr.cell? ⟨tb, 0, none⟩ = some (.int .i64 tx) := by
            rw [World.cell?_of_block (a := ⟨tb, 0, none⟩) (HM.out.block tb htl (fun e => hgt e.symm))]; exact HT.out
          have HTW := Lib.hid htw
          have htw1 := World.block_lt_of_cell? wr _ htw
          have htw2 : tb < wr.heap.size := htw1
          clear hy htw htw1
          obtain ⟨y1, y2⟩ := y
          simp only at c0 c1
          go_wp2_with fail
          refine (clo_release tb tx y1 y2 _ (by rw [World.cell?_alloc_lt _ _ _ htw2]; exact HTW.out)).mono ?_
          rintro e w2 ⟨rfl, hb2⟩
          have hbb : Below wr.heap.size wr w2 := ((Below.refl _ wr).alloc (Nat.le_refl _) _).trans (hb2.mono (by simp))
          have HB2 := Lib.hid hbb
          have HD2 := Lib.hid (HD.out.below hbb)
          have HC2 := Lib.hid HD2.out.cells
          have v0 : w2.cell? ⟨wr.heap.size, 0, none⟩ = some (.int .i64 y1) := by rw [hb2.cell (p := ⟨wr.heap.size, 0, none⟩) (by simp)]; simp
          have v1 : w2.cell? ⟨wr.heap.size, 1, none⟩ = some (.int .i64 y2) := by rw [hb2.cell (p := ⟨wr.heap.size, 1, none⟩) (by simp)]; simp
          clear hb2 hbb
          cases hq : (y1 == tx) with
          | true =>
            have hx : y1 = tx := by simpa using hq
            have HX := Lib.hid hx
            clear hq hx
            go_wp2_with fail
            go_roundg (n - (j + 1))
            case measure => omega
            case rel => exact ⟨i, j + 1, dl, rfl, by go_num, by omega, by omega, by omega, Lib.hid (HK.out.skip HY.out HX.out), HD2, Lib.hid (HM.out.trans (moves_of_below HB2.out) fun _ h => .inl h)⟩
          | false =>
            have hx : y1 ≠ tx := by simpa using hq
            have HX := Lib.hid hx
            obtain ⟨s0, z0⟩ := HC2.out (i * 2) (by omega)
            obtain ⟨s1, z1⟩ := HC2.out (i * 2 + 1) (by omega)
            obtain ⟨o0, e0⟩ := Option.isSome_iff_exists.1 s0
            obtain ⟨o1, e1⟩ := Option.isSome_iff_exists.1 s1
            have hil : (i : Int) < (n : Int) := by omega
            clear hq hx s0 s1 c0 c1
            go_wp2_with fail
            go_roundg (n - (j + 1))
            case measure => omega
            case rel =>
              refine ⟨i + 1, j + 1, dl.set i (y1, y2), by go_num, by go_num, by omega, by omega, by omega, Lib.hid (HK.out.store HY.out HX.out), Lib.hid ?_, Lib.hid ?_⟩
              · exact HD2.out.set (p := (y1, y2)) (by rw [HK.out.len]; have := HN.out; omega) _ rfl
              · exact ((HM.out.trans (moves_of_below HB2.out) fun _ h => .inl h).trans (moves_setCell (· = g) w2 ⟨g, i * 2, none⟩ _ rfl) fun _ h => .inl h).trans (moves_setCell (· = g) _ ⟨g, i * 2 + 1, none⟩ _ rfl) fun _ h => .inl h
        · obtain rfl : j = n := by omega
          have hnl := HN.out
          have hcl : ∀ ty, (Builtin.clear_ #[62] ty #[.slice (some ⟨g, i * 2, none⟩) (j - i) (cap - i)]).run Try.prog wr = .ok (.tuple #[]) (wr.setCells g (i * 2) (List.replicate ((j - i) * 2) (.int .i64 0))) := fun ty => by
            have HC := HD.out.cells
            exact run_clear2 wr _ _ ty Try.underlying62 Try.zeroValue83 g (i * 2) (j - i) (cap - i) (fun t ht => (HC _ (by omega)).1) (fun t ht => (HC _ (by omega)).2)
          have hik : (i : Int) ≤ (cap : Int) := by omega
          have hii : (i : Int) ≤ (j : Int) := by omega
          clear hnl
          go_wp2_with fail
          go_ret
          have e : dl.take i = releaseH hs tx := by rw [HK.out.kept, List.take_of_length_le (by have := HN.out; omega)]
          refine ⟨_, rfl, ?_, rfl, ?_⟩
          · rw [← e]
            exact HD.out.cut (by rw [HK.out.len]; have := HN.out; omega) rfl
          · have m1 := moves_setCells (· = g) g rfl (List.replicate ((j - i) * 2) (.int .i64 0)) (i * 2) wr
            exact (HM.out.trans m1 fun _ h => .inl h).mono fun k hk => by rw [hk]; rfl
set_option maxRecDepth 100000 in
set_option maxHeartbeats 1000000 in
theorem release_any (rb : Nat) (hv wv : Value) (hs : List (Int × Int)) (tx : Int) (w : World) (hB : BoxR w rb hv wv) (h : HoldAt w hv hs) (hne : hv.ownBlock ≠ some rb) :
    Calls Try.prog 45 #[.pointer (some ⟨rb, 0, none⟩), .int .i64 tx] w (NewH w rb hv wv (releaseH hs tx)) := by
  have H := Lib.hid h
  have HB := Lib.hid hB
  have HN := Lib.hid hne
  have c0 := hB.c0
  have hlt := hB.lt
  clear h hB hne
  go_enter Try.func45, Try.ntmps45
  go_wp2_with fail
  have b0 : Below w.heap.size w (w.alloc (Obj.cells #[Value.int IntKind.i64 tx] 3)) := (Below.refl _ w).alloc (Nat.le_refl _) _
  have hnb : hv.ownBlock ≠ some w.heap.size := fun e => by have := H.out.lt _ e; omega
  refine (delete_holders hv hs w.heap.size tx _ (H.out.below b0) (by simp) hnb).mono ?_
  rintro e w1 ⟨hv', rfl, h1, h2, m1⟩
  obtain ⟨A', c', rfl⟩ := h1.isSlice
  have HB1 := Lib.hid (show BoxR w1 rb hv wv from (HB.out.below b0).kept (m1.block rb (HB.out.below b0).lt HN.out))
  have f0 := HB1.out.f0 0
  have c0' := HB1.out.c0
  have hlt1 := HB1.out.lt
  have M1 := Lib.hid m1
  have H1 := Lib.hid h1
  have H2 := Lib.hid h2
  clear b0 m1 h1 h2 c0
  go_wp2_with fail
  go_end0
  refine ⟨rfl, _, HB1.out.set0 _, H1.out.kept fun k hk => Below.heap_setCell _ _ _ k (fun e => ?_), fun k hk => .inl (H2.out ▸ hk), ?_⟩
  · have hk2 : hv.ownBlock = some k := H2.out ▸ hk
    exact HN.out (by rw [hk2]; exact congrArg some e)
  · have m0 : Moves (fun k => k = rb ∨ hv.ownBlock = some k) w _ := moves_of_below ((Below.refl _ w).alloc (Nat.le_refl _) (Obj.cells #[Value.int IntKind.i64 tx] 3))
    exact (m0.trans (M1.out.mono fun k hk => .inr hk) fun _ h => .inl h).trans (moves_setCell (fun k => k = rb ∨ hv.ownBlock = some k) w1 ⟨rb, 0, none⟩ _ (.inl rfl)) fun _ h => .inl h
end Go.Proofs.Ytnfodidfhnofkaa
