/- lock: keysWhere (a loop over the rows; the keys that it gathers, sorted by slices.SortFunc). -/
import Derived.Test.YtnfodidfhnofkaaBr
import Derived.Lib.BytesEntry
import Derived.Laws.Externs
namespace Go.Proofs.Ytnfodidfhnofkaa
open Go.RowKit Go.Deep Go.Maps Go.Sort Go.Lib

/-- bytes.Compare of two keys. -/
def kcmp (x y : KeyT) : Int := if x.num < y.num then -1 else if y.num < x.num then 1 else 0
theorem kcmp_lt (x y : KeyT) : Go.Proofs.ltOf kcmp x y = decide (x.num < y.num) := by
  unfold Go.Proofs.ltOf kcmp
  by_cases h : x.num < y.num
  · simp [h]
  · by_cases h2 : y.num < x.num <;> simp [h, h2]
theorem kcmp_swo : SWO (Go.Proofs.ltOf kcmp) where
  irrefl x := by rw [kcmp_lt]; simp
  trans x y z h1 h2 := by rw [kcmp_lt] at *; simp at *; omega
  ntrans x y z h1 h2 := by rw [kcmp_lt] at *; simp at *; omega
theorem kcmp_total (x y : KeyT) (h1 : Go.Proofs.ltOf kcmp x y = false) (h2 : Go.Proofs.ltOf kcmp y x = false) : x = y := by
  rw [kcmp_lt] at h1 h2
  simp at h1 h2
  exact KeyT.num_inj (by omega)
/-- The bytes of a key. -/
def kB (k : KeyT) : List Int := [(k.a.val : Int), (k.b.val : Int), (k.c.val : Int), (k.d.val : Int)]
theorem cmp4 (a0 a1 a2 a3 b0 b1 b2 b3 : UInt8) : Extern.BytealgCompare.cmp ⟨#[a0, a1, a2, a3]⟩ ⟨#[b0, b1, b2, b3]⟩ =
    if a0 ≠ b0 then (if a0 < b0 then -1 else 1) else if a1 ≠ b1 then (if a1 < b1 then -1 else 1) else if a2 ≠ b2 then (if a2 < b2 then -1 else 1) else if a3 ≠ b3 then (if a3 < b3 then -1 else 1) else 0 := by
  unfold Extern.BytealgCompare.cmp
  change (match List.find? (fun i => (⟨#[a0, a1, a2, a3]⟩ : ByteArray)[i]! != (⟨#[b0, b1, b2, b3]⟩ : ByteArray)[i]!) [0, 1, 2, 3] with | some i => _ | none => _) = _
  have e0 : ((⟨#[a0, a1, a2, a3]⟩ : ByteArray)[0]! != (⟨#[b0, b1, b2, b3]⟩ : ByteArray)[0]!) = (a0 != b0) := rfl
  have e1 : ((⟨#[a0, a1, a2, a3]⟩ : ByteArray)[1]! != (⟨#[b0, b1, b2, b3]⟩ : ByteArray)[1]!) = (a1 != b1) := rfl
  have e2 : ((⟨#[a0, a1, a2, a3]⟩ : ByteArray)[2]! != (⟨#[b0, b1, b2, b3]⟩ : ByteArray)[2]!) = (a2 != b2) := rfl
  have e3 : ((⟨#[a0, a1, a2, a3]⟩ : ByteArray)[3]! != (⟨#[b0, b1, b2, b3]⟩ : ByteArray)[3]!) = (a3 != b3) := rfl
  simp only [List.find?, e0, e1, e2, e3]
  by_cases h0 : a0 = b0
  · by_cases h1 : a1 = b1
    · by_cases h2 : a2 = b2
      · by_cases h3 : a3 = b3
        · subst h0 h1 h2 h3
          simp
        · subst h0 h1 h2
          rw [show (a3 != b3) = true by simpa using h3]
          simp [h3]
          rfl
      · subst h0 h1
        rw [show (a2 != b2) = true by simpa using h2]
        simp [h2]
        rfl
    · subst h0
      rw [show (a1 != b1) = true by simpa using h1]
      simp [h1]
      rfl
  · rw [show (a0 != b0) = true by simpa using h0]
    simp [h0]
    rfl
theorem u8_of (i : Fin 256) : (((i.val : Nat) : Int).toNat.toUInt8).toNat = i.val := by
  have := i.isLt
  simp
theorem u8_ne (i j : Fin 256) : (((i.val : Nat) : Int).toNat.toUInt8 ≠ ((j.val : Nat) : Int).toNat.toUInt8) ↔ i.val ≠ j.val := by
  constructor
  · intro h e
    exact h (by rw [e])
  · intro h e
    have := congrArg UInt8.toNat e
    rw [u8_of, u8_of] at this
    exact h this
theorem u8_lt (i j : Fin 256) : (((i.val : Nat) : Int).toNat.toUInt8 < ((j.val : Nat) : Int).toNat.toUInt8) ↔ i.val < j.val := by
  rw [UInt8.lt_iff_toNat_lt, u8_of, u8_of]
theorem cmp_bytes (x y : KeyT) : Extern.BytealgCompare.cmp ⟨(bytesOf (kB x)).toArray⟩ ⟨(bytesOf (kB y)).toArray⟩ = kcmp x y := by
  refine (cmp4 _ _ _ _ _ _ _ _).trans ?_
  simp only [u8_ne, u8_lt]
  unfold kcmp KeyT.num
  have := x.a.isLt; have := x.b.isLt; have := x.c.isLt; have := x.d.isLt
  have := y.a.isLt; have := y.b.isLt; have := y.c.isLt; have := y.d.isLt
  repeat' split
  all_goals first | rfl | omega
set_option maxRecDepth 100000 in
set_option maxHeartbeats 1000000 in
theorem compare_any (x y : KeyT) (A B ca cb : Nat) (w : World) (hx : ∀ j v, (kv x)[j]? = some v → w.cell? ⟨A, j, none⟩ = some v) (hy : ∀ j v, (kv y)[j]? = some v → w.cell? ⟨B, j, none⟩ = some v) :
    Calls Try.prog 63 #[.slice (some ⟨A, 0, none⟩) 4 ca, .slice (some ⟨B, 0, none⟩) 4 cb] w fun e w' => e = .returned (.int .i64 (kcmp x y)) ∧ w' = w := by
  have hl := fun (z : KeyT) (C : Nat) (hz : ∀ j v, (kv z)[j]? = some v → w.cell? ⟨C, j, none⟩ = some v) => run_loadBytesX (P := Try.prog) w (kB z) ⟨C, 0, none⟩ .empty (fun j v hj => by
    have e : (⟨C, 0, none⟩ : Addr).add j = ⟨C, j, none⟩ := by unfold Addr.add; split <;> simp_all
    rw [e]
    refine hz j _ ?_
    rw [show kv z = (kB z).map (Value.int .u8) from rfl, List.getElem?_map, hj]
    rfl)
  have hr : (Extern.BytealgCompare.compare #[.slice (some ⟨A, 0, none⟩) 4 ca, .slice (some ⟨B, 0, none⟩) 4 cb]).run Try.prog w = .ok (.int .i64 (kcmp x y)) w := by
    change Sem.run Try.prog (do pure (goInt (Extern.BytealgCompare.cmp (← Extern.Bytes.loadBytes ⟨A, 0, none⟩ (kB x).length .empty) (← Extern.Bytes.loadBytes ⟨B, 0, none⟩ (kB y).length .empty)))) w = _
    simp only [Sem.run_bind, hl x A hx, Result.andThen_ok, hl y B hy, Sem.run_pure]
    rw [← cmp_bytes]
    rfl
  go_enter Try.func63, Try.ntmps63
  go_wp2_with fail
  rw [run_callFunc_extern Try.func77 (by kernel_rfl) (by kernel_rfl) (by kernel_rfl) (e := Extern.BytealgCompare.compare) (by kernel_rfl), hr]
  simp only [Result.andThen]
  rw [Oper.upon_value]
  go_wp2
  go_ret
  exact ⟨rfl, rfl⟩
theorem kv_cells {w : World} {b : Nat} {k : KeyT} {t : TypeId} (h : w.heap[b]? = some (.cells (kv k).toArray t (0, 0))) : ∀ j v, (kv k)[j]? = some v → w.cell? ⟨b, j, none⟩ = some v := fun j v hj => by
  have : w.cell? ⟨b, j, none⟩ = ((kv k).toArray)[j]? := by simp [World.cell?, h]
  rw [this, List.getElem?_toArray]
  exact hj
set_option maxRecDepth 100000 in
set_option maxHeartbeats 1000000 in
theorem clo_cmp (x y : KeyT) (w : World) : Calls Try.prog 62 #[KV x, KV y] w fun e w' => e = .returned (.int .i64 (kcmp x y)) ∧ ∃ q os', w' = Go.Sort.grow (w.drewN q) os' := by
  have hal : ((w.alloc (.cells (kv x).toArray 24)).alloc (.cells (kv y).toArray 24)).drew = Go.Sort.grow (w.drewN 1) #[.cells (kv x).toArray 24 (0, 0), .cells (kv y).toArray 24 (0, 0)] := by
    rw [Go.Sort.alloc_eq_grow, Go.Sort.alloc_eq_grow, Go.Sort.grow_grow]
    rfl
  have hx : ((w.alloc (.cells (kv x).toArray 24)).alloc (.cells (kv y).toArray 24)).heap[w.heap.size]? = some (.cells (kv x).toArray 24 (0, 0)) := (Below.heap_alloc _ _ _ (by simp)).trans (heap_alloc_new w _)
  have hy : ((w.alloc (.cells (kv x).toArray 24)).alloc (.cells (kv y).toArray 24)).heap[w.heap.size + 1]? = some (.cells (kv y).toArray 24 (0, 0)) := by
    have := heap_alloc_new (w.alloc (.cells (kv x).toArray 24)) (.cells (kv y).toArray 24)
    rwa [World.size_alloc] at this
  have HC := Lib.hid (compare_any x y w.heap.size (w.heap.size + 1) 4 4 _ (kv_cells (w := ((w.alloc (.cells (kv x).toArray 24)).alloc (.cells (kv y).toArray 24)).drew) hx) (kv_cells (w := ((w.alloc (.cells (kv x).toArray 24)).alloc (.cells (kv y).toArray 24)).drew) hy))
  have HAL := Lib.hid hal
  clear hal hx hy
  unfold KV kv at *
  generalize hX : kcmp x y = r at *
  go_enter Try.func62, Try.ntmps62
  go_wp2_with fail
  generalize (w.alloc (.cells #[.int .u8 (x.a.val : Int), .int .u8 (x.b.val : Int), .int .u8 (x.c.val : Int), .int .u8 (x.d.val : Int)] 24)).alloc (.cells #[.int .u8 (y.a.val : Int), .int .u8 (y.b.val : Int), .int .u8 (y.c.val : Int), .int .u8 (y.d.val : Int)] 24) = V at *
  go_still_tail 2, (by kernel_rfl)
  change wpList _ _ _ _ _ V.drew
  go_wp2_with (go_at_call 63; refine HC.out.mono ?_; rintro e w' ⟨rfl, rfl⟩)
  go_ret
  exact ⟨rfl, _, _, HAL.out⟩
theorem cmp_lays (blk off size : Nat) (w : World) : Go.Proofs.CmpLays Try.prog 62 #[] kv 4 kcmp blk off size w := fun m os dk _ x y => by
  have h := clo_cmp x y (Go.Proofs.sortWorldK kv 4 w blk off m dk os)
  exact h
theorem flatMap_get {α : Type} {enc : α → List Value} {k : Nat} (hk : ∀ x, (enc x).length = k) : ∀ (l : List α) (i c : Nat) (x : α), l[i]? = some x → c < k → (l.flatMap enc)[i * k + c]? = (enc x)[c]?
  | [], i, c, x, h, _ => by simp at h
  | y :: l, 0, c, x, h, hc => by
    simp at h
    subst h
    rw [List.flatMap_cons, Nat.zero_mul, Nat.zero_add, List.getElem?_append_left (by rw [hk]; exact hc)]
  | y :: l, i + 1, c, x, h, hc => by
    have ih := flatMap_get hk l i c x (by simpa using h) hc
    rw [List.flatMap_cons, List.getElem?_append_right (by rw [hk, Nat.add_mul]; omega), hk, ← ih]
    congr 1
    rw [Nat.add_mul]; omega
theorem flatMap_len {α : Type} {enc : α → List Value} {k : Nat} (hk : ∀ x, (enc x).length = k) : ∀ l : List α, (l.flatMap enc).length = l.length * k
  | [] => by simp
  | x :: l => by rw [List.flatMap_cons, List.length_append, hk, flatMap_len hk l, List.length_cons, Nat.add_mul]; omega
theorem flatK_list {α : Type} [Inhabited α] {enc : α → List Value} {k : Nat} (hk : ∀ x, (enc x).length = k) (h0 : 0 < k) (l : List α) : (Go.Sort.flatK enc k l.toArray).toList = l.flatMap enc := by
  apply List.ext_getElem?
  intro t
  by_cases ht : t < l.length * k
  · have hi : t / k < l.length := Nat.div_lt_of_lt_mul (by rw [Nat.mul_comm]; exact ht)
    have hc : t % k < k := Nat.mod_lt t h0
    have e : t / k * k + t % k = t := by rw [Nat.mul_comm]; exact Nat.div_add_mod t k
    have h1 := flatMap_get hk l (t / k) (t % k) _ (List.getElem?_eq_getElem hi) hc
    rw [e] at h1
    rw [h1]
    have hs : t < (Go.Sort.flatK enc k l.toArray).size := by simpa using ht
    have h2 := Go.Sort.get_flatK enc k l.toArray t (by simpa using ht)
    rw [getElem!_pos (Go.Sort.flatK enc k l.toArray) t hs] at h2
    rw [Array.getElem?_toList, Array.getElem?_eq_getElem hs, h2]
    have h3 : l.toArray[t / k]! = l[t / k] := by rw [getElem!_pos l.toArray (t / k) (by simpa using hi)]; simp
    rw [h3, getElem!_pos (enc l[t / k]) (t % k) (by rw [hk]; exact hc)]
    exact (List.getElem?_eq_getElem (by rw [hk]; exact hc)).symm
  · rw [List.getElem?_eq_none (by simpa using ht), List.getElem?_eq_none (by rw [flatMap_len hk]; omega)]
/-- A slice of keys of the call's own. -/
def KeysAt (w : World) (base : Nat) (v : Value) (l : List KeyT) : Prop := w.ownsRow base 24 4 v l.length (l.flatMap kv)
theorem holdsK_block {w : World} {g : Nat} {cur : Array Value} {e : TypeId} {l : List KeyT} (hb : w.heap[g]? = some (.cells cur e (0, 0))) (ht : cur.toList.take (l.length * 4) = l.flatMap kv) : Go.Sort.HoldsK kv 4 w g 0 l.toArray := by
  intro j hj
  have hj' : j < l.length * 4 := by simpa using hj
  refine ⟨?_, by simp [World.frozen?, hb]⟩
  have e := flatK_list kv_len (by decide) l
  rw [← ht] at e
  have h1 : (Go.Sort.flatK kv 4 l.toArray)[j]! = ((Go.Sort.flatK kv 4 l.toArray).toList)[j]! := by rw [Array.getElem!_toList]
  have h2 : w.cell? ⟨g, 0 + j, none⟩ = cur[j]? := by simp [World.cell?, hb]
  rw [h2, show id ((Go.Sort.flatK kv 4 l.toArray)[j]!) = (Go.Sort.flatK kv 4 l.toArray)[j]! from rfl]
  have h3 : (Go.Sort.flatK kv 4 l.toArray).toList[j]? = cur[j]? := by rw [e, List.getElem?_take_of_lt hj', Array.getElem?_toList]
  rw [← h3, Array.getElem?_toList, getElem!_pos (Go.Sort.flatK kv 4 l.toArray) j hj, Array.getElem?_eq_getElem hj]
theorem heap_sortK {w : World} {g n : Nat} {os : Array Obj} {cur : Array Value} {e : TypeId} {fr : Nat × Nat} (d : Array KeyT) (hb : w.heap[g]? = some (.cells cur e fr)) :
    (Go.Proofs.sortWorldK kv 4 w g 0 n d os).heap[g]? = some (.cells (putCells id 0 (Go.Sort.flatK kv 4 d) cur) e fr) := by
  have hg : g < w.heap.size := (Array.getElem?_eq_some_iff.1 hb).1
  unfold Go.Proofs.sortWorldK Go.Sort.putRowK
  rw [Go.Sort.heap_grow_old _ _ (by simpa using hg)]
  simp [putRow, mapBlock, Sort.ahead, Array.getElem?_modify, hb, onCells]
theorem grownBy_sortK {w : World} {g n : Nat} {os : Array Obj} (d : Array KeyT) : w.grownBy (Go.Proofs.sortWorldK kv 4 w g 0 n d os) (some g) := by
  refine ⟨rfl, rfl, rfl, by simp [Go.Proofs.sortWorldK, Go.Sort.putRowK], fun k hk hne => ?_⟩
  unfold Go.Proofs.sortWorldK Go.Sort.putRowK
  rw [Go.Sort.heap_grow_old _ _ (by simpa using hk)]
  have : g ≠ k := fun e => hne (by rw [e])
  simp [putRow, mapBlock, Sort.ahead, Array.getElem?_modify, this]
theorem keysAt_sorted {w : World} {base g cap n : Nat} {os : Array Obj} {cur : Array Value} {ls ts : List KeyT} (hl : ts.length = ls.length) (hbase : base ≤ g) (hb : w.heap[g]? = some (.cells cur 24 (0, 0)))
    (h1 : ls.length ≤ cap) (h2 : cap ≤ maxLen) (h3 : cur.size = cap * 4) : KeysAt (Go.Proofs.sortWorldK kv 4 w g 0 n ts.toArray os) base (.slice (some ⟨g, 0, none⟩) ls.length cap) ts := by
  refine ⟨flatMap_len kv_len _, .inr ⟨g, cap, _, by rw [hl], hbase, heap_sortK _ hb, by omega, h2, by simp [putCells, h3], ?_⟩⟩
  rw [← flatK_list kv_len (by decide) ts]
  apply List.ext_getElem?
  intro j
  by_cases hj : j < ts.length * 4
  · rw [List.getElem?_take_of_lt hj, Array.getElem?_toList, Array.getElem?_toList]
    simp [putCells, hj, show j < cur.size by omega]
  · rw [List.getElem?_take_eq_none (by omega), List.getElem?_eq_none (by simp; omega)]
/-- What keysWhere is to answer. -/
structure KeysL (st : PS) (q : PRow → Bool) (l : List KeyT) : Prop where
  up : SortedK l
  mem : ∀ k, k ∈ l ↔ (st.rows k).isSome = true ∧ q (st.row k) = true
def kSort (ls : List KeyT) : List KeyT := ls.mergeSort fun x y => !(Go.Proofs.ltOf kcmp) y x
theorem kSort_len (ls : List KeyT) : (kSort ls).length = ls.length := List.length_mergeSort ls
theorem keys_done {st : PS} {g : KeyT → Value} {q : PRow → Bool} {left : KeyT → Bool} {ls : List KeyT} (h : Got (fun _ => True) (rowF st g) (fun k => q (st.row k)) left ls) (hl : ∀ x : KeyT, True → left x = false) : KeysL st q (kSort ls) := by
  have hp := List.mergeSort_perm ls (fun x y => !(Go.Proofs.ltOf kcmp) y x)
  refine ⟨?_, fun k => ?_⟩
  · have hn := hp.nodup_iff.2 h.nd
    have hs : (kSort ls).Pairwise (fun x y => x.num ≤ y.num) := (List.pairwise_mergeSort (le := fun x y => !(Go.Proofs.ltOf kcmp) y x) (fun a b c h1 h2 => by rw [kcmp_lt] at *; simp at *; omega) (fun a b => by rw [kcmp_lt, kcmp_lt]; simp; omega) ls).imp (fun h => by rw [kcmp_lt] at h; simpa using h)
    exact (hs.and hn).imp fun ⟨h1, h2⟩ => by
      rcases Nat.lt_or_ge _ _ with h3 | h3
      · exact h3
      · exact absurd (KeyT.num_inj (by omega)) h2
  · unfold kSort
    rw [hp.mem_iff, h.done hl k trivial]
    unfold rowF
    rw [Option.isSome_map]
end Go.Proofs.Ytnfodidfhnofkaa
