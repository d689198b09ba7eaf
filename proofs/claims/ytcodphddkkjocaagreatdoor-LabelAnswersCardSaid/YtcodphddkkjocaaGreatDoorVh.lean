/- Layer 1 for the stages above it: lists of bytes of a word, numbers packed and unpacked, what Bytes, From, Pack and Unpack answer as lists. -/
import Derived.Test.YtcodphddkkjocaaGreatDoorVg
namespace Go.Proofs.YtcodphddkkjocaaGreatDoor
open Go.RowKit Go.Deep Go.Shelf

/-- A word's lowest n bytes. -/
def bytesL (u n : Nat) : List Int := (List.range n).map (fun j => ((byteAt u j : Nat) : Int))
theorem bytesL_length (u n : Nat) : (bytesL u n).length = n := by simp [bytesL]
theorem byteAt_lt (u j : Nat) : byteAt u j < 256 := by unfold byteAt; omega
theorem bytesL_bytes (u n : Nat) : isBytes (bytesL u n) := by
  intro z hz
  simp only [bytesL, List.mem_map] at hz
  obtain ⟨j, _, rfl⟩ := hz
  have := byteAt_lt u j
  omega
theorem bytesL_at (u n j : Nat) (h : j < n) : (bytesL u n)[j]?.getD 0 = ((byteAt u j : Nat) : Int) := by simp [bytesL, h]
theorem byteAt_succ (u j : Nat) : byteAt u (j + 1) = byteAt (u / 256) j := by
  unfold byteAt
  rw [Nat.div_div_eq_div_mul, show (2 : Nat) ^ (8 * (j + 1)) = 256 * 2 ^ (8 * j) by rw [show 8 * (j + 1) = 8 * j + 8 by omega, Nat.pow_add, Nat.mul_comm]]
theorem from_bytes (n : Nat) : ∀ u, u / 2 ^ (8 * n) = 0 → fromN (bytesL u n) = u := by
  induction n with
  | zero => intro u h; simp at h; subst h; rfl
  | succ n ih =>
    intro u h
    have e : bytesL u (n + 1) = ((byteAt u 0 : Nat) : Int) :: bytesL (u / 256) n := by
      unfold bytesL
      rw [List.range_succ_eq_map, List.map_cons, List.map_map]
      congr 1
      apply List.map_congr_left
      intro j _
      simp [byteAt_succ]
    have h2 : u / 256 / 2 ^ (8 * n) = 0 := by
      rw [Nat.div_div_eq_div_mul, show 256 * 2 ^ (8 * n) = (2 : Nat) ^ (8 * (n + 1)) by rw [show 8 * (n + 1) = 8 * n + 8 by omega, Nat.pow_add, Nat.mul_comm]]
      exact h
    rw [e, fromN_cons, ih _ h2]
    have : byteAt u 0 = u % 256 := by simp [byteAt]
    omega
theorem bytes_take (u n : Nat) : (bytesL u (n + 1)).take n = bytesL u n := by
  unfold bytesL
  rw [← List.map_take, List.take_range, Nat.min_eq_left (by omega)]

/-- What Bytes answers where there is enough room. -/
theorem bytes_list (u : Nat) (hu : u < 18446744073709551616) (n : Nat) (h : n ≤ 8) (hz : u / 2 ^ (8 * n) = 0) (w : World) :
    Calls Tryz.prog 39 #[.int .u64 u, .int .i64 n] w fun e w' => e = .returned (.slice (some ⟨w.heap.size, 0, none⟩) n n) ∧ Ints .u8 w'.heap.size w' (some ⟨w.heap.size, 0, none⟩) (bytesL u n) ∧ (∀ j, j < n → w'.cell? ⟨w.heap.size, j, none⟩ = some (.int .u8 (byteAt u j))) ∧ w.heap.size < w'.heap.size ∧ Below w.heap.size w w' := by
  refine (bytes_yes u hu n h hz w).mono ?_
  rintro e w' ⟨rfl, hr, hb⟩
  exact ⟨rfl, ints_row hr _ (bytesL_length u n) (fun j hj => by rw [bytesL_at u n j hj]), fun j hj => hr.cell hj, hr.lt, hb⟩

theorem from_back (u n : Nat) (h8 : n ≤ 8) (hz : u / 2 ^ (8 * n) = 0) (W : World) (A : Option Addr) (c : Nat) (h : Ints .u8 W.heap.size W A (bytesL u n)) :
    Calls Tryz.prog 25 #[.slice A n c] W fun e w' => e = .returned (.tuple #[.int .u64 u, .bool true]) ∧ Below W.heap.size W w' := by
  have := from_yes A c (bytesL u n) (bytesL_bytes u n) (by rw [bytesL_length]; exact h8) W h
  rwa [bytesL_length, from_bytes n u hz] at this

/-! ### Numbers packed and unpacked -/
def unpackR : List Int → Nat → List Int
  | [], _ => []
  | x :: ws, u => ((u % 2 ^ x.toNat : Nat) : Int) :: unpackR ws (u / 2 ^ x.toNat)
theorem unpackL_length (ws : List Int) (u : Nat) : (unpackL ws u).length = ws.length := by simp [unpackL]
theorem offN_cons (x : Int) (ws : List Int) (hx : 1 ≤ x) (hw : ∀ y ∈ ws, 1 ≤ y ∧ y ≤ 63) (k : Nat) : offN (x :: ws) (k + 1) = x.toNat + offN ws k := by
  unfold offN
  rw [List.take_succ_cons]
  simp only [sumI]
  have := sumI_pos (ws.take k) (fun y hy => hw y (List.mem_of_mem_take hy))
  omega
theorem unpackL_eq (ws : List Int) (hw : ∀ y ∈ ws, 1 ≤ y ∧ y ≤ 63) : ∀ u, unpackL ws u = unpackR ws u := by
  induction ws with
  | nil => intro u; rfl
  | cons x ws ih =>
    intro u
    have hx := hw x (by simp)
    have hw' : ∀ y ∈ ws, 1 ≤ y ∧ y ≤ 63 := fun y hy => hw y (by simp [hy])
    unfold unpackL unpackR
    rw [← ih hw' (u / 2 ^ x.toNat), List.length_cons, List.range_succ_eq_map, List.map_cons, List.map_map]
    congr 1
    · simp [fieldAt, offN, sumI]
    · unfold unpackL
      apply List.map_congr_left
      intro k _
      simp only [Function.comp, Nat.succ_eq_add_one, fieldAt, List.getElem?_cons_succ]
      rw [offN_cons x ws hx.1 hw' k, Nat.pow_add, Nat.div_div_eq_div_mul]
theorem unpack_ok (ws : List Int) (hw : ∀ y ∈ ws, 1 ≤ y ∧ y ≤ 63) : ∀ u, okVs ws (unpackR ws u) = true := by
  induction ws with
  | nil => intro u; rfl
  | cons x ws ih =>
    intro u
    simp only [unpackR, okVs, Bool.and_eq_true]
    refine ⟨(okV_iff _ _).2 ⟨by omega, ?_⟩, ih (fun y hy => hw y (by simp [hy])) _⟩
    rw [Int.toNat_natCast]
    exact Nat.mod_lt _ (Nat.two_pow_pos _)
theorem pack_unpack (ws : List Int) (hw : ∀ y ∈ ws, 1 ≤ y ∧ y ≤ 63) : ∀ u, packN ws (unpackR ws u) = u % 2 ^ (sumI ws).toNat := by
  induction ws with
  | nil => intro u; simp [packN, sumI, Nat.mod_one]
  | cons x ws ih =>
    intro u
    have hx := hw x (by simp)
    have hw' : ∀ y ∈ ws, 1 ≤ y ∧ y ≤ 63 := fun y hy => hw y (by simp [hy])
    have hs := sumI_pos ws hw'
    simp only [unpackR]
    rw [packN_cons, ih hw', Int.toNat_natCast, show (sumI (x :: ws)).toNat = x.toNat + (sumI ws).toNat by simp only [sumI]; omega, Nat.pow_add, Nat.mod_mul]
theorem unpack_pack (ws : List Int) : ∀ vs, okVs ws vs = true → unpackR ws (packN ws vs) = vs := by
  induction ws with
  | nil => intro vs h; cases vs <;> simp [okVs] at h ⊢ <;> rfl
  | cons x ws ih =>
    intro vs h
    cases vs with
    | nil => simp [okVs] at h
    | cons v vs =>
      simp only [okVs, Bool.and_eq_true] at h
      obtain ⟨h1, h2⟩ := (okV_iff x v).1 h.1
      have p : 0 < 2 ^ x.toNat := Nat.two_pow_pos _
      rw [packN_cons]
      simp only [unpackR]
      rw [Nat.add_mul_mod_self_left, Nat.mod_eq_of_lt h2, Nat.add_mul_div_left _ _ p, Nat.div_eq_of_lt h2, Nat.zero_add, ih vs h.2]
      congr 1
      omega
theorem offN_all (ws : List Int) : offN ws ws.length = (sumI ws).toNat := by simp [offN]

/-- What Unpack takes. -/
def unpackOK (ws : List Int) (u : Nat) : Bool := okW ws && decide (u / 2 ^ offN ws ws.length = 0)
theorem pack_then (ws vs : List Int) (h : packOK ws vs = true) : unpackOK ws (packN ws vs) = true ∧ unpackL ws (packN ws vs) = vs ∧ packN ws vs < 18446744073709551616 := by
  simp only [packOK, Bool.and_eq_true] at h
  have hw := (okW_iff ws).1 h.1
  have hlt := packN_lt ws vs hw.1 h.2
  have h64 : 2 ^ (sumI ws).toNat ≤ 2 ^ 64 := Nat.pow_le_pow_right (by decide) (by omega)
  refine ⟨?_, ?_, by omega⟩
  · simp only [unpackOK, Bool.and_eq_true, decide_eq_true_eq]
    exact ⟨h.1, by rw [offN_all]; exact Nat.div_eq_of_lt hlt⟩
  · rw [unpackL_eq ws hw.1, unpack_pack ws vs h.2]
theorem unpack_then (ws : List Int) (u : Nat) (h : unpackOK ws u = true) : packOK ws (unpackL ws u) = true ∧ packN ws (unpackL ws u) = u := by
  simp only [unpackOK, Bool.and_eq_true, decide_eq_true_eq] at h
  have hw := (okW_iff ws).1 h.1
  rw [unpackL_eq ws hw.1]
  refine ⟨by simp only [packOK, h.1, unpack_ok ws hw.1 u, Bool.and_self], ?_⟩
  rw [pack_unpack ws hw.1]
  have h2 := h.2
  rw [offN_all] at h2
  have := Nat.div_add_mod u (2 ^ (sumI ws).toNat)
  rw [h2] at this
  omega
theorem unpackL_i64 (ws : List Int) (u : Nat) (h : okW ws = true) : i64s (unpackL ws u) := by
  intro v hv
  simp only [unpackL, List.mem_map, List.mem_range] at hv
  obtain ⟨k, hk, rfl⟩ := hv
  have := okW_at ws h k hk
  have := mod63 (u / 2 ^ offN ws k) (ws[k]?.getD 0).toNat (by omega)
  rw [fieldAt_eq]
  omega
theorem unpackL_at (ws : List Int) (u j : Nat) (h : j < ws.length) : (unpackL ws u)[j]?.getD 0 = ((fieldAt ws u j : Nat) : Int) := by simp [unpackL, h]

def UnpackYes (ws : List Int) (u : Nat) (w : World) (e : Ending) (w' : World) : Prop :=
  e = .returned (.tuple #[.slice (some ⟨w.heap.size, 0, none⟩) ws.length ws.length, .bool true]) ∧ Ints .i64 w'.heap.size w' (some ⟨w.heap.size, 0, none⟩) (unpackL ws u) ∧ Below w.heap.size w w'

theorem zig_nonneg (n : Int) : 0 ≤ zigI n := by unfold zigI; split <;> omega
theorem zig_lt (n : Int) (h1 : -9223372036854775808 ≤ n) (h2 : n ≤ 9223372036854775807) : zigI n < 18446744073709551616 := by unfold zigI; split <;> omega
theorem zag_bounds (u : Nat) (h : u < 18446744073709551616) : -9223372036854775808 ≤ zagI u ∧ zagI u < 9223372036854775808 := by unfold zagI; split <;> omega
end Go.Proofs.YtcodphddkkjocaaGreatDoor
