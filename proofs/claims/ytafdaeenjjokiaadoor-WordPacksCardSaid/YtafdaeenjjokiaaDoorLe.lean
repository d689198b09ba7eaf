/- The walk of the statement WordBack: it returns true, for every input. -/
import Derived.Test.YtafdaeenjjokiaaDoorLc
namespace Go.Proofs.YtafdaeenjjokiaaDoor
open Go.RowKit Go.Deep Go.Shelf

/-! ### Numbers packed and unpacked -/
def unpackR : List Int → Nat → List Int
  | [], _ => []
  | x :: ws, u => ((u % 2 ^ x.toNat : Nat) : Int) :: unpackR ws (u / 2 ^ x.toNat)
theorem unpackL_length (ws : List Int) (u : Nat) : (unpackL ws u).length = ws.length := by simp [unpackL]
theorem offN_cons (x : Int) (ws : List Int) (hx : 1 ≤ x) (hw : ∀ y ∈ ws, 1 ≤ y ∧ y ≤ 63) (k : Nat) : offN (x :: ws) (k + 1) = x.toNat + offN ws k := by
  unfold offN
  rw [List.take_succ_cons]
  simp only [sumI]
  have := sumI_pos (ws.take k) (fun y hy => hw y (List.mem_of_mem_take hy))
  omega
theorem unpackL_eq (ws : List Int) (hw : ∀ y ∈ ws, 1 ≤ y ∧ y ≤ 63) : ∀ u, unpackL ws u = unpackR ws u := by
  induction ws with
  | nil => intro u; rfl
  | cons x ws ih =>
    intro u
    have hx := hw x (by simp)
    have hw' : ∀ y ∈ ws, 1 ≤ y ∧ y ≤ 63 := fun y hy => hw y (by simp [hy])
    unfold unpackL unpackR
    rw [← ih hw' (u / 2 ^ x.toNat), List.length_cons, List.range_succ_eq_map, List.map_cons, List.map_map]
    congr 1
    · simp [fieldAt, offN, sumI]
    · unfold unpackL
      apply List.map_congr_left
      intro k _
      simp only [Function.comp, Nat.succ_eq_add_one, fieldAt, List.getElem?_cons_succ]
      rw [offN_cons x ws hx.1 hw' k, Nat.pow_add, Nat.div_div_eq_div_mul]
theorem unpack_ok (ws : List Int) (hw : ∀ y ∈ ws, 1 ≤ y ∧ y ≤ 63) : ∀ u, okVs ws (unpackR ws u) = true := by
  induction ws with
  | nil => intro u; rfl
  | cons x ws ih =>
    intro u
    simp only [unpackR, okVs, Bool.and_eq_true]
    refine ⟨(okV_iff _ _).2 ⟨by omega, ?_⟩, ih (fun y hy => hw y (by simp [hy])) _⟩
    rw [Int.toNat_natCast]
    exact Nat.mod_lt _ (Nat.two_pow_pos _)
theorem pack_unpack (ws : List Int) (hw : ∀ y ∈ ws, 1 ≤ y ∧ y ≤ 63) : ∀ u, packN ws (unpackR ws u) = u % 2 ^ (sumI ws).toNat := by
  induction ws with
  | nil => intro u; simp [packN, sumI, Nat.mod_one]
  | cons x ws ih =>
    intro u
    have hx := hw x (by simp)
    have hw' : ∀ y ∈ ws, 1 ≤ y ∧ y ≤ 63 := fun y hy => hw y (by simp [hy])
    have hs := sumI_pos ws hw'
    simp only [unpackR]
    rw [packN_cons, ih hw', Int.toNat_natCast, show (sumI (x :: ws)).toNat = x.toNat + (sumI ws).toNat by simp only [sumI]; omega, Nat.pow_add, Nat.mod_mul]
theorem unpack_pack (ws : List Int) : ∀ vs, okVs ws vs = true → unpackR ws (packN ws vs) = vs := by
  induction ws with
  | nil => intro vs h; cases vs <;> simp [okVs] at h ⊢ <;> rfl
  | cons x ws ih =>
    intro vs h
    cases vs with
    | nil => simp [okVs] at h
    | cons v vs =>
      simp only [okVs, Bool.and_eq_true] at h
      obtain ⟨h1, h2⟩ := (okV_iff x v).1 h.1
      have p : 0 < 2 ^ x.toNat := Nat.two_pow_pos _
      rw [packN_cons]
      simp only [unpackR]
      rw [Nat.add_mul_mod_self_left, Nat.mod_eq_of_lt h2, Nat.add_mul_div_left _ _ p, Nat.div_eq_of_lt h2, Nat.zero_add, ih vs h.2]
      congr 1
      omega
theorem offN_all (ws : List Int) : offN ws ws.length = (sumI ws).toNat := by simp [offN]

/-- What Unpack takes. -/
def unpackOK (ws : List Int) (u : Nat) : Bool := okW ws && decide (u / 2 ^ offN ws ws.length = 0)
theorem pack_then (ws vs : List Int) (h : packOK ws vs = true) : unpackOK ws (packN ws vs) = true ∧ unpackL ws (packN ws vs) = vs ∧ packN ws vs < 18446744073709551616 := by
  simp only [packOK, Bool.and_eq_true] at h
  have hw := (okW_iff ws).1 h.1
  have hlt := packN_lt ws vs hw.1 h.2
  have h64 : 2 ^ (sumI ws).toNat ≤ 2 ^ 64 := Nat.pow_le_pow_right (by decide) (by omega)
  refine ⟨?_, ?_, by omega⟩
  · simp only [unpackOK, Bool.and_eq_true, decide_eq_true_eq]
    exact ⟨h.1, by rw [offN_all]; exact Nat.div_eq_of_lt hlt⟩
  · rw [unpackL_eq ws hw.1, unpack_pack ws vs h.2]
theorem unpack_then (ws : List Int) (u : Nat) (h : unpackOK ws u = true) : packOK ws (unpackL ws u) = true ∧ packN ws (unpackL ws u) = u := by
  simp only [unpackOK, Bool.and_eq_true, decide_eq_true_eq] at h
  have hw := (okW_iff ws).1 h.1
  rw [unpackL_eq ws hw.1]
  refine ⟨by simp only [packOK, h.1, unpack_ok ws hw.1 u, Bool.and_self], ?_⟩
  rw [pack_unpack ws hw.1]
  have h2 := h.2
  rw [offN_all] at h2
  have := Nat.div_add_mod u (2 ^ (sumI ws).toNat)
  rw [h2] at this
  omega
theorem unpackL_i64 (ws : List Int) (u : Nat) (h : okW ws = true) : i64s (unpackL ws u) := by
  intro v hv
  simp only [unpackL, List.mem_map, List.mem_range] at hv
  obtain ⟨k, hk, rfl⟩ := hv
  have := okW_at ws h k hk
  have := mod63 (u / 2 ^ offN ws k) (ws[k]?.getD 0).toNat (by omega)
  rw [fieldAt_eq]
  omega
theorem unpackL_at (ws : List Int) (u j : Nat) (h : j < ws.length) : (unpackL ws u)[j]?.getD 0 = ((fieldAt ws u j : Nat) : Int) := by simp [unpackL, h]

def UnpackYes (ws : List Int) (u : Nat) (w : World) (e : Ending) (w' : World) : Prop :=
  e = .returned (.tuple #[.slice (some ⟨w.heap.size, 0, none⟩) ws.length ws.length, .bool true]) ∧ Ints .i64 w'.heap.size w' (some ⟨w.heap.size, 0, none⟩) (unpackL ws u) ∧ Below w.heap.size w w'

theorem unpack_yes (A : Option Addr) (ws : List Int) (c u : Nat) (hu : u < 18446744073709551616) (w : World) (h : Ints .i64 w.heap.size w A ws) (ho : unpackOK ws u = true) :
    Calls Tryd.prog 29 #[.slice A ws.length c, .int .u64 u] w (UnpackYes ws u w) := by
  simp only [unpackOK, Bool.and_eq_true, decide_eq_true_eq] at ho
  refine (unpack_good A ws c u hu w h (okW_short ws ho.1) ho.1).mono ?_
  rintro e w' (⟨_, rfl, hr, hb⟩ | ⟨hn, _⟩)
  · exact ⟨rfl, ints_row hr _ (unpackL_length ws u) (fun j hj => by rw [unpackL_at ws u j hj]), hb⟩
  · exact absurd ho.2 hn
theorem unpack_no (A : Option Addr) (ws : List Int) (c u : Nat) (hu : u < 18446744073709551616) (w : World) (h : Ints .i64 w.heap.size w A ws) (hl : ws.length ≤ 17592186044416) (ho : unpackOK ws u = false) :
    Calls Tryd.prog 29 #[.slice A ws.length c, .int .u64 u] w fun e w' => e = .returned (.tuple #[.slice none 0 0, .bool false]) ∧ Below w.heap.size w w' := by
  cases hw : okW ws with
  | false =>
    refine (unpack_bad A ws c w.heap.size u w h hl hw).mono ?_
    rintro e w' ⟨rfl, rfl⟩
    exact ⟨rfl, Below.refl _ _⟩
  | true =>
    simp only [unpackOK, hw, Bool.true_and, decide_eq_false_iff_not] at ho
    refine (unpack_good A ws c u hu w h (okW_short ws hw) hw).mono ?_
    rintro e w' (⟨hz, _⟩ | ⟨_, rfl, hb⟩)
    · exact absurd hz ho
    · exact ⟨rfl, hb⟩

theorem pack_gives (ws vs : List Int) (hv : i64s vs) (hl : ws.length ≤ 17592186044416) (x : Nat) (b : Bool) (hx : (if packOK ws vs then packN ws vs else 0) = x) (hb : packOK ws vs = b) (A A' : Option Addr) (cap cap' l l' : Nat) (hll : ws.length = l) (hll' : vs.length = l') (w : World) (hI : Ints .i64 w.heap.size w A ws) (hI' : Ints .i64 w.heap.size w A' vs) :
    Calls Tryd.prog 27 #[.slice A l cap, .slice A' l' cap'] w fun e W' => e = .returned (.tuple #[.int .u64 x, .bool b]) ∧ Below w.heap.size w W' := by
  subst hx hb hll hll'
  exact pack_any A A' cap cap' ws vs hv hl w hI hI'
theorem same_gives (xs : List Int) (hl : xs.length ≤ 17592186044416) (l l' : Nat) (e1 : xs.length = l) (e2 : xs.length = l') (W : World) (A A' : Option Addr) (c c' : Nat) (h : Ints .i64 W.heap.size W A xs) (h' : Ints .i64 W.heap.size W A' xs) :
    Calls Tryd.prog 33 #[.slice A l c, .slice A' l' c'] W fun e w' => e = .returned (.bool true) ∧ Dr W w' := by
  subst e1
  subst e2
  refine (sameInts_any A A' xs xs c c' W.heap.size W h h' hl hl).mono ?_
  rintro e w' ⟨rfl, hd⟩
  exact ⟨by simp, hd⟩

/-- Both guards of the statement are passed. -/
theorem len_ok (n : Nat) (h : n ≤ 100) : decide ((100 : Int) < (n : Int)) = false := by simp; omega
theorem len_no (n : Nat) (h : 100 < n) : decide ((100 : Int) < (n : Int)) = true := by simp; omega

theorem below_more {B : Nat} {w w1 w2 : World} (h : Below B w w1) (k : Below w1.heap.size w1 w2) (hB : B ≤ w.heap.size) : Below B w w2 := h.trans (k.mono (Nat.le_trans hB h.size))

set_option maxHeartbeats 1000000 in
theorem wordBack_long (A A' : Option Addr) (l l' c c' u : Nat) (hl : 100 < l ∨ (l ≤ 100 ∧ 100 < l')) (_m : l ≤ 9223372036854775807) (_m' : l' ≤ 9223372036854775807) (w : World) (hT : Tab w) :
    Calls Tryd.prog 8 #[.slice A l c, .slice A' l' c', .int .u64 u] w fun e w' => e = .returned (.bool true) ∧ Below w.heap.size w w' := by
  have hA := Lib.hid (alive_any w hT)
  clear hT
  rcases hl with h1 | ⟨h1, h2⟩
  · have g1 := len_no l h1
    go_enter Tryd.func8, Tryd.ntmps8
    go_wp2_with fail
    refine hA.out.mono ?_
    clear hA
    rintro e w1 ⟨rfl, hb⟩
    go_wp2
    go_ret
    exact ⟨rfl, hb⟩
  · have g1 := len_ok l h1
    have g2 := len_no l' h2
    go_enter Tryd.func8, Tryd.ntmps8
    go_wp2_with fail
    refine hA.out.mono ?_
    clear hA
    rintro e w1 ⟨rfl, hb⟩
    go_wp2
    go_ret
    exact ⟨rfl, hb⟩

/-- The end of the statement: bytes and back. -/
theorem tail_bytes (u : Nat) (hu : u < 18446744073709551616) : (∀ W, Calls Tryd.prog 35 #[.int .u64 u, .int .i64 8] W fun e w' => e = .returned (.slice (some ⟨W.heap.size, 0, none⟩) 8 8) ∧ Ints .u8 w'.heap.size w' (some ⟨W.heap.size, 0, none⟩) (bytesL u 8) ∧ Below W.heap.size W w') ∧
    (∀ W A, Ints .u8 W.heap.size W A (bytesL u 8) → Calls Tryd.prog 31 #[.slice A 8 8] W fun e w' => e = .returned (.tuple #[.int .u64 u, .bool true]) ∧ Below W.heap.size W w') := by
  have hz : u / 2 ^ (8 * 8) = 0 := by omega
  exact ⟨fun W => (bytes_list u hu 8 (by omega) hz W).mono (by rintro e w' ⟨rfl, hi, _, _, hb⟩; exact ⟨rfl, hi, hb⟩), fun W A h => from_back u 8 (by omega) hz W A 8 h⟩

set_option maxHeartbeats 2000000 in
theorem wordBack_yy (A A' : Option Addr) (ws vs : List Int) (c c' u l l' : Nat) (hll : ws.length = l) (hll' : vs.length = l') (hu : u < 18446744073709551616) (hl : ws.length ≤ 100) (hl' : vs.length ≤ 100) (hv : i64s vs) (w : World) (hT : Tab w) (h : Ints .i64 w.heap.size w A ws) (h' : Ints .i64 w.heap.size w A' vs)
    (hp : packOK ws vs = true) (hq : unpackOK ws u = true) :
    Calls Tryd.prog 8 #[.slice A l c, .slice A' l' c', .int .u64 u] w fun e w' => e = .returned (.bool true) ∧ Below w.heap.size w w' := by
  have hA := Lib.hid (alive_any w hT)
  have g1 := len_ok ws.length hl
  have g2 := len_ok vs.length hl'
  rw [hll] at g1
  rw [hll'] at g2
  obtain ⟨q1, q2, q3⟩ := pack_then ws vs hp
  have c1 := Lib.hid (pack_gives ws vs hv (by omega) (packN ws vs) true (by rw [hp]; rfl) hp A A' c c' l l' hll hll')
  have c2 := Lib.hid (fun W h => unpack_yes A ws c (packN ws vs) q3 W h q1)
  have c3 := Lib.hid (fun W A h h' => same_gives vs (by omega) l l' (by rw [← hll, okVs_length ws vs (by simp only [packOK, Bool.and_eq_true] at hp; exact hp.2)]) hll' W A A' l c' h h')
  obtain ⟨q4, q5⟩ := unpack_then ws u hq
  have ho : okW ws = true := by simp only [unpackOK, Bool.and_eq_true] at hq; exact hq.1
  have c4 := Lib.hid (fun W h => unpack_yes A ws c u hu W h hq)
  have c5 := Lib.hid (fun A' => pack_gives ws (unpackL ws u) (unpackL_i64 ws u ho) (by omega) u true (by rw [q4]; exact q5) q4 A A' c l l l hll (by rw [unpackL_length, hll]))
  clear q4 q5 ho
  obtain ⟨t1, t2⟩ := tail_bytes u hu
  have t1 := Lib.hid t1
  have t2 := Lib.hid t2
  have huu : ((u : Int) != (u : Int)) = false := by simp
  generalize packN ws vs = x at *
  have Q2 := Lib.hid q2
  clear q1 q2
  clear hp hq
  go_enter Tryd.func8, Tryd.ntmps8
  go_wp2_with fail
  refine hA.out.mono ?_
  clear hA
  rintro e w1 ⟨rfl, b1⟩
  go_wp2_with fail
  refine (c1.out w1 ((h.below b1 (Nat.le_refl _)).more b1.size) ((h'.below b1 (Nat.le_refl _)).more b1.size)).mono ?_
  rintro e w2 ⟨rfl, k2⟩
  have b2 := below_more b1 k2 (Nat.le_refl _)
  clear k2 b1
  go_wp2_with fail
  have u2 := c2.out w2 ((h.below b2 (Nat.le_refl _)).more b2.size)
  rw [hll] at u2
  refine u2.mono ?_
  clear u2
  rintro e w3 ⟨rfl, i3, k3⟩
  rw [Q2.out] at i3
  have b3 := below_more b2 k3 (Nat.le_refl _)
  clear k3 b2
  go_wp2_with fail
  refine (c3.out w3 _ i3 ((h'.below b3 (Nat.le_refl _)).more b3.size)).mono ?_
  rintro e w4 ⟨rfl, d4⟩
  have b4 := below_more b3 (d4.below _ (Nat.le_refl _)) (Nat.le_refl _)
  clear d4 b3 i3
  go_wp2_with fail
  have u4 := c4.out w4 ((h.below b4 (Nat.le_refl _)).more b4.size)
  rw [hll] at u4
  refine u4.mono ?_
  clear u4
  rintro e w5 ⟨rfl, i5, k5⟩
  have b5 := below_more b4 k5 (Nat.le_refl _)
  clear k5 b4
  rw [hll]
  go_wp2_with fail
  refine (c5.out _ w5 ((h.below b5 (Nat.le_refl _)).more b5.size) i5).mono ?_
  rintro e w6 ⟨rfl, k6⟩
  have b6 := below_more b5 k6 (Nat.le_refl _)
  clear k6 b5 i5
  go_wp2_with fail
  refine (t1.out w6).mono ?_
  rintro e w7 ⟨rfl, i7, k7⟩
  have b7 := below_more b6 k7 (Nat.le_refl _)
  clear k7 b6
  go_wp2_with fail
  refine (t2.out w7 _ i7).mono ?_
  rintro e w8 ⟨rfl, k8⟩
  have b8 := below_more b7 k8 (Nat.le_refl _)
  go_wp2
  go_ret
  exact ⟨rfl, b8⟩

set_option maxHeartbeats 2000000 in
theorem wordBack_yn (A A' : Option Addr) (ws vs : List Int) (c c' u l l' : Nat) (hll : ws.length = l) (hll' : vs.length = l') (hu : u < 18446744073709551616) (hl : ws.length ≤ 100) (hl' : vs.length ≤ 100) (hv : i64s vs) (w : World) (hT : Tab w) (h : Ints .i64 w.heap.size w A ws) (h' : Ints .i64 w.heap.size w A' vs)
    (hp : packOK ws vs = true) (hq : unpackOK ws u = false) :
    Calls Tryd.prog 8 #[.slice A l c, .slice A' l' c', .int .u64 u] w fun e w' => e = .returned (.bool true) ∧ Below w.heap.size w w' := by
  have hA := Lib.hid (alive_any w hT)
  have g1 := len_ok ws.length hl
  have g2 := len_ok vs.length hl'
  rw [hll] at g1
  rw [hll'] at g2
  obtain ⟨q1, q2, q3⟩ := pack_then ws vs hp
  have c1 := Lib.hid (pack_gives ws vs hv (by omega) (packN ws vs) true (by rw [hp]; rfl) hp A A' c c' l l' hll hll')
  have c2 := Lib.hid (fun W h => unpack_yes A ws c (packN ws vs) q3 W h q1)
  have c3 := Lib.hid (fun W A h h' => same_gives vs (by omega) l l' (by rw [← hll, okVs_length ws vs (by simp only [packOK, Bool.and_eq_true] at hp; exact hp.2)]) hll' W A A' l c' h h')
  have c4 := Lib.hid (fun W h => unpack_no A ws c u hu W h (by omega) hq)
  obtain ⟨t1, t2⟩ := tail_bytes u hu
  have t1 := Lib.hid t1
  have t2 := Lib.hid t2
  have huu : ((u : Int) != (u : Int)) = false := by simp
  generalize packN ws vs = x at *
  have Q2 := Lib.hid q2
  clear q1 q2
  clear hp hq
  go_enter Tryd.func8, Tryd.ntmps8
  go_wp2_with fail
  refine hA.out.mono ?_
  clear hA
  rintro e w1 ⟨rfl, b1⟩
  go_wp2_with fail
  refine (c1.out w1 ((h.below b1 (Nat.le_refl _)).more b1.size) ((h'.below b1 (Nat.le_refl _)).more b1.size)).mono ?_
  rintro e w2 ⟨rfl, k2⟩
  have b2 := below_more b1 k2 (Nat.le_refl _)
  clear k2 b1
  go_wp2_with fail
  have u2 := c2.out w2 ((h.below b2 (Nat.le_refl _)).more b2.size)
  rw [hll] at u2
  refine u2.mono ?_
  clear u2
  rintro e w3 ⟨rfl, i3, k3⟩
  rw [Q2.out] at i3
  have b3 := below_more b2 k3 (Nat.le_refl _)
  clear k3 b2
  go_wp2_with fail
  refine (c3.out w3 _ i3 ((h'.below b3 (Nat.le_refl _)).more b3.size)).mono ?_
  rintro e w4 ⟨rfl, d4⟩
  have b4 := below_more b3 (d4.below _ (Nat.le_refl _)) (Nat.le_refl _)
  clear d4 b3 i3
  go_wp2_with fail
  have u4 := c4.out w4 ((h.below b4 (Nat.le_refl _)).more b4.size)
  rw [hll] at u4
  refine u4.mono ?_
  clear u4
  rintro e w6 ⟨rfl, k6⟩
  have b6 := below_more b4 k6 (Nat.le_refl _)
  clear k6 b4
  go_wp2_with fail
  refine (t1.out w6).mono ?_
  rintro e w7 ⟨rfl, i7, k7⟩
  have b7 := below_more b6 k7 (Nat.le_refl _)
  clear k7 b6
  go_wp2_with fail
  refine (t2.out w7 _ i7).mono ?_
  rintro e w8 ⟨rfl, k8⟩
  have b8 := below_more b7 k8 (Nat.le_refl _)
  go_wp2
  go_ret
  exact ⟨rfl, b8⟩

set_option maxHeartbeats 2000000 in
theorem wordBack_ny (A A' : Option Addr) (ws vs : List Int) (c c' u l l' : Nat) (hll : ws.length = l) (hll' : vs.length = l') (hu : u < 18446744073709551616) (hl : ws.length ≤ 100) (hl' : vs.length ≤ 100) (hv : i64s vs) (w : World) (hT : Tab w) (h : Ints .i64 w.heap.size w A ws) (h' : Ints .i64 w.heap.size w A' vs)
    (hp : packOK ws vs = false) (hq : unpackOK ws u = true) :
    Calls Tryd.prog 8 #[.slice A l c, .slice A' l' c', .int .u64 u] w fun e w' => e = .returned (.bool true) ∧ Below w.heap.size w w' := by
  have hA := Lib.hid (alive_any w hT)
  have g1 := len_ok ws.length hl
  have g2 := len_ok vs.length hl'
  rw [hll] at g1
  rw [hll'] at g2
  have c1 := Lib.hid (pack_gives ws vs hv (by omega) 0 false (by rw [hp]; rfl) hp A A' c c' l l' hll hll')
  obtain ⟨q4, q5⟩ := unpack_then ws u hq
  have ho : okW ws = true := by simp only [unpackOK, Bool.and_eq_true] at hq; exact hq.1
  have c4 := Lib.hid (fun W h => unpack_yes A ws c u hu W h hq)
  have c5 := Lib.hid (fun A' => pack_gives ws (unpackL ws u) (unpackL_i64 ws u ho) (by omega) u true (by rw [q4]; exact q5) q4 A A' c l l l hll (by rw [unpackL_length, hll]))
  clear q4 q5 ho
  obtain ⟨t1, t2⟩ := tail_bytes u hu
  have t1 := Lib.hid t1
  have t2 := Lib.hid t2
  have huu : ((u : Int) != (u : Int)) = false := by simp
  clear hp hq
  go_enter Tryd.func8, Tryd.ntmps8
  go_wp2_with fail
  refine hA.out.mono ?_
  clear hA
  rintro e w1 ⟨rfl, b1⟩
  go_wp2_with fail
  refine (c1.out w1 ((h.below b1 (Nat.le_refl _)).more b1.size) ((h'.below b1 (Nat.le_refl _)).more b1.size)).mono ?_
  rintro e w2 ⟨rfl, k2⟩
  have b2 := below_more b1 k2 (Nat.le_refl _)
  clear k2 b1
  obtain ⟨w4, h4⟩ : ∃ w4, w4 = w2 := ⟨w2, rfl⟩
  subst h4
  have b4 := b2
  clear b2
  go_wp2_with fail
  have u4 := c4.out w4 ((h.below b4 (Nat.le_refl _)).more b4.size)
  rw [hll] at u4
  refine u4.mono ?_
  clear u4
  rintro e w5 ⟨rfl, i5, k5⟩
  have b5 := below_more b4 k5 (Nat.le_refl _)
  clear k5 b4
  rw [hll]
  go_wp2_with fail
  refine (c5.out _ w5 ((h.below b5 (Nat.le_refl _)).more b5.size) i5).mono ?_
  rintro e w6 ⟨rfl, k6⟩
  have b6 := below_more b5 k6 (Nat.le_refl _)
  clear k6 b5 i5
  go_wp2_with fail
  refine (t1.out w6).mono ?_
  rintro e w7 ⟨rfl, i7, k7⟩
  have b7 := below_more b6 k7 (Nat.le_refl _)
  clear k7 b6
  go_wp2_with fail
  refine (t2.out w7 _ i7).mono ?_
  rintro e w8 ⟨rfl, k8⟩
  have b8 := below_more b7 k8 (Nat.le_refl _)
  go_wp2
  go_ret
  exact ⟨rfl, b8⟩

set_option maxHeartbeats 2000000 in
theorem wordBack_nn (A A' : Option Addr) (ws vs : List Int) (c c' u l l' : Nat) (hll : ws.length = l) (hll' : vs.length = l') (hu : u < 18446744073709551616) (hl : ws.length ≤ 100) (hl' : vs.length ≤ 100) (hv : i64s vs) (w : World) (hT : Tab w) (h : Ints .i64 w.heap.size w A ws) (h' : Ints .i64 w.heap.size w A' vs)
    (hp : packOK ws vs = false) (hq : unpackOK ws u = false) :
    Calls Tryd.prog 8 #[.slice A l c, .slice A' l' c', .int .u64 u] w fun e w' => e = .returned (.bool true) ∧ Below w.heap.size w w' := by
  have hA := Lib.hid (alive_any w hT)
  have g1 := len_ok ws.length hl
  have g2 := len_ok vs.length hl'
  rw [hll] at g1
  rw [hll'] at g2
  have c1 := Lib.hid (pack_gives ws vs hv (by omega) 0 false (by rw [hp]; rfl) hp A A' c c' l l' hll hll')
  have c4 := Lib.hid (fun W h => unpack_no A ws c u hu W h (by omega) hq)
  obtain ⟨t1, t2⟩ := tail_bytes u hu
  have t1 := Lib.hid t1
  have t2 := Lib.hid t2
  have huu : ((u : Int) != (u : Int)) = false := by simp
  clear hp hq
  go_enter Tryd.func8, Tryd.ntmps8
  go_wp2_with fail
  refine hA.out.mono ?_
  clear hA
  rintro e w1 ⟨rfl, b1⟩
  go_wp2_with fail
  refine (c1.out w1 ((h.below b1 (Nat.le_refl _)).more b1.size) ((h'.below b1 (Nat.le_refl _)).more b1.size)).mono ?_
  rintro e w2 ⟨rfl, k2⟩
  have b2 := below_more b1 k2 (Nat.le_refl _)
  clear k2 b1
  obtain ⟨w4, h4⟩ : ∃ w4, w4 = w2 := ⟨w2, rfl⟩
  subst h4
  have b4 := b2
  clear b2
  go_wp2_with fail
  have u4 := c4.out w4 ((h.below b4 (Nat.le_refl _)).more b4.size)
  rw [hll] at u4
  refine u4.mono ?_
  clear u4
  rintro e w6 ⟨rfl, k6⟩
  have b6 := below_more b4 k6 (Nat.le_refl _)
  clear k6 b4
  go_wp2_with fail
  refine (t1.out w6).mono ?_
  rintro e w7 ⟨rfl, i7, k7⟩
  have b7 := below_more b6 k7 (Nat.le_refl _)
  clear k7 b6
  go_wp2_with fail
  refine (t2.out w7 _ i7).mono ?_
  rintro e w8 ⟨rfl, k8⟩
  have b8 := below_more b7 k8 (Nat.le_refl _)
  go_wp2
  go_ret
  exact ⟨rfl, b8⟩

theorem wordBack_any (A A' : Option Addr) (ws vs : List Int) (c c' u l l' : Nat) (hll : ws.length = l) (hll' : vs.length = l') (m : l ≤ 9223372036854775807) (m' : l' ≤ 9223372036854775807) (hu : u < 18446744073709551616) (hv : i64s vs) (w : World) (hT : Tab w) (h : Ints .i64 w.heap.size w A ws) (h' : Ints .i64 w.heap.size w A' vs) :
    Calls Tryd.prog 8 #[.slice A l c, .slice A' l' c', .int .u64 u] w fun e w' => e = .returned (.bool true) ∧ Below w.heap.size w w' := by
  by_cases hb : l ≤ 100 ∧ l' ≤ 100
  · cases hp : packOK ws vs <;> cases hq : unpackOK ws u
    · exact wordBack_nn A A' ws vs c c' u l l' hll hll' hu (by omega) (by omega) hv w hT h h' hp hq
    · exact wordBack_ny A A' ws vs c c' u l l' hll hll' hu (by omega) (by omega) hv w hT h h' hp hq
    · exact wordBack_yn A A' ws vs c c' u l l' hll hll' hu (by omega) (by omega) hv w hT h h' hp hq
    · exact wordBack_yy A A' ws vs c c' u l l' hll hll' hu (by omega) (by omega) hv w hT h h' hp hq
  · exact wordBack_long A A' l l' c c' u (by omega) m m' w hT
end Go.Proofs.YtafdaeenjjokiaaDoor
