/- Plain arithmetic of layer 2's sum of 24 bits: it is linear, it loses nothing, what is sealed has the sum 0, and turned bits are seen. Nothing of the program. -/
import Derived.Test.YtnllacoimffjpaaMathb
namespace Go.Proofs.Ytnllacoimffjpaa

/-- The sum is doubled, and brought back below 2 to 24. -/
def dbl (s : Nat) : Nat := if 16777216 ≤ 2 * s then (2 * s) ^^^ 25578747 else 2 * s
theorem dbl_low (s : Nat) (h : s < 8388608) : dbl s = 2 * s := by unfold dbl; rw [if_neg (by omega)]
theorem dbl_high (l : Nat) (h : l < 8388608) : dbl (8388608 + l) = (2 * l) ^^^ 8801531 := by
  unfold dbl
  rw [if_pos (by omega)]
  have hx := xor_parts 24 1 (2 * l) 1 8801531 (by omega) (by omega)
  rw [show 1 * 2 ^ 24 + 2 * l = 2 * (8388608 + l) by omega, show 1 * 2 ^ 24 + 8801531 = 25578747 by decide, Nat.xor_self, Nat.zero_mul, Nat.zero_add] at hx
  exact hx
theorem xor24 (a b : Nat) (ha : a < 16777216) (hb : b < 16777216) : a ^^^ b < 16777216 := Nat.xor_lt_two_pow (n := 24) ha hb
theorem dbl_lt (s : Nat) (h : s < 16777216) : dbl s < 16777216 := by
  by_cases h2 : s < 8388608
  · rw [dbl_low s h2]; omega
  · rw [show s = 8388608 + (s - 8388608) by omega, dbl_high _ (by omega)]
    exact xor24 _ _ (by omega) (by omega)
theorem two_xor (a b : Nat) : 2 * (a ^^^ b) = (2 * a) ^^^ (2 * b) := by
  have := xor_parts 1 a 0 b 0 (by decide) (by decide)
  rw [Nat.xor_self] at this
  rw [show 2 * a = a * 2 ^ 1 + 0 by omega, show 2 * b = b * 2 ^ 1 + 0 by omega, this]
  omega
theorem xor_swap (a b c d : Nat) : (a ^^^ b) ^^^ (c ^^^ d) = (a ^^^ c) ^^^ (b ^^^ d) := by
  rw [Nat.xor_assoc, Nat.xor_assoc, ← Nat.xor_assoc b c d, Nat.xor_comm b c, Nat.xor_assoc c b d]
theorem dbl_lin (a b : Nat) (ha : a < 16777216) (hb : b < 16777216) : dbl (a ^^^ b) = dbl a ^^^ dbl b := by
  have key : ∀ x y, x < 8388608 → y < 8388608 → dbl (x ^^^ y) = dbl x ^^^ dbl y ∧ dbl ((8388608 + x) ^^^ y) = dbl (8388608 + x) ^^^ dbl y ∧ dbl ((8388608 + x) ^^^ (8388608 + y)) = dbl (8388608 + x) ^^^ dbl (8388608 + y) := by
    intro x y hx hy
    have hl : x ^^^ y < 8388608 := Nat.xor_lt_two_pow (n := 23) hx hy
    have e1 := xor_parts 23 1 x 0 y (by omega) (by omega)
    have e2 := xor_parts 23 1 x 1 y (by omega) (by omega)
    rw [show 1 * 2 ^ 23 + x = 8388608 + x by omega, show 0 * 2 ^ 23 + y = y by omega, Nat.xor_zero, show 1 * 2 ^ 23 + (x ^^^ y) = 8388608 + (x ^^^ y) by omega] at e1
    rw [show 1 * 2 ^ 23 + x = 8388608 + x by omega, show 1 * 2 ^ 23 + y = 8388608 + y by omega, Nat.xor_self, Nat.zero_mul, Nat.zero_add] at e2
    refine ⟨?_, ?_, ?_⟩
    · rw [dbl_low _ hl, dbl_low _ hx, dbl_low _ hy, two_xor]
    · rw [e1, dbl_high _ hl, dbl_high _ hx, dbl_low _ hy, two_xor, Nat.xor_assoc, Nat.xor_assoc, Nat.xor_comm 8801531]
    · rw [e2, dbl_low _ hl, dbl_high _ hx, dbl_high _ hy, two_xor, xor_swap, Nat.xor_self, Nat.xor_zero]
  by_cases h1 : a < 8388608 <;> by_cases h2 : b < 8388608
  · exact (key a b h1 h2).1
  · have := (key (b - 8388608) a (by omega) h1).2.1
    rw [show 8388608 + (b - 8388608) = b by omega] at this
    rw [Nat.xor_comm a b, this, Nat.xor_comm]
  · have := (key (a - 8388608) b (by omega) h2).2.1
    rw [show 8388608 + (a - 8388608) = a by omega] at this
    exact this
  · have := (key (a - 8388608) (b - 8388608) (by omega) (by omega)).2.2
    rw [show 8388608 + (a - 8388608) = a by omega, show 8388608 + (b - 8388608) = b by omega] at this
    exact this
theorem dbl_zero (s : Nat) (h : s < 16777216) (h0 : dbl s = 0) : s = 0 := by
  by_cases h2 : s < 8388608
  · rw [dbl_low s h2] at h0; omega
  · rw [show s = 8388608 + (s - 8388608) by omega, dbl_high _ (by omega)] at h0
    have hx := xor_parts 1 (s - 8388608) 0 4400765 1 (by decide) (by decide)
    rw [show (s - 8388608) * 2 ^ 1 + 0 = 2 * (s - 8388608) by omega, show 4400765 * 2 ^ 1 + 1 = 8801531 by decide, h0, show (0 : Nat) ^^^ 1 = 1 by decide] at hx
    omega

/-- So many times. -/
def itd (n s : Nat) : Nat := match n with
  | 0 => s
  | n + 1 => itd n (dbl s)
termination_by n
theorem itd_0 (s : Nat) : itd 0 s = s := by rw [itd]
theorem itd_s (n s : Nat) : itd (n + 1) s = itd n (dbl s) := by rw [itd]
theorem itd_lt (n : Nat) : ∀ s, s < 16777216 → itd n s < 16777216 := by
  induction n with
  | zero => intro s h; rw [itd_0]; exact h
  | succ n ih => intro s h; rw [itd_s]; exact ih _ (dbl_lt s h)
theorem itd_lin (n : Nat) : ∀ a b, a < 16777216 → b < 16777216 → itd n (a ^^^ b) = itd n a ^^^ itd n b := by
  induction n with
  | zero => intro a b _ _; rw [itd_0, itd_0, itd_0]
  | succ n ih => intro a b ha hb; rw [itd_s, itd_s, itd_s, dbl_lin a b ha hb]; exact ih _ _ (dbl_lt a ha) (dbl_lt b hb)
theorem itd_zero (n : Nat) : ∀ s, s < 16777216 → itd n s = 0 → s = 0 := by
  induction n with
  | zero => intro s _ h; rw [itd_0] at h; exact h
  | succ n ih => intro s h h0; rw [itd_s] at h0; exact dbl_zero s h (ih _ (dbl_lt s h) h0)
theorem itd_nought (n : Nat) : itd n 0 = 0 := by
  induction n with
  | zero => rw [itd_0]
  | succ n ih => rw [itd_s, show dbl 0 = 0 by decide]; exact ih
theorem itd_add (m n : Nat) : ∀ s, itd (m + n) s = itd n (itd m s) := by
  induction m with
  | zero => intro s; rw [Nat.zero_add, itd_0]
  | succ m ih => intro s; rw [show m + 1 + n = (m + n) + 1 by omega, itd_s, itd_s]; exact ih (dbl s)
theorem itd_small (n : Nat) : ∀ s, s * 2 ^ n < 16777216 → itd n s = s * 2 ^ n := by
  induction n with
  | zero => intro s _; rw [itd_0]; omega
  | succ n ih =>
    intro s h
    have e : s * 2 ^ (n + 1) = 2 * s * 2 ^ n := by rw [Nat.pow_succ, Nat.mul_comm 2 s, Nat.mul_assoc, Nat.mul_comm 2]
    have p : 0 < 2 ^ n := Nat.two_pow_pos n
    have h1 : 2 * s < 16777216 := Nat.lt_of_le_of_lt (Nat.le_mul_of_pos_right _ p) (by rw [← e]; exact h)
    rw [itd_s, dbl_low s (by omega), ih _ (by rw [← e]; exact h), e]

/-- What a sum becomes by a byte, and by bytes. -/
def stepB (s b : Nat) : Nat := itd 8 (s ^^^ (b * 65536))
def crc (s : Nat) (bs : List Nat) : Nat := bs.foldl stepB s
def bytesN (bs : List Nat) : Prop := ∀ b ∈ bs, b < 256
theorem stepB_lt (s b : Nat) (hs : s < 16777216) (hb : b < 256) : stepB s b < 16777216 := by
  have h : b * 65536 < 16777216 := by omega
  unfold stepB
  exact itd_lt 8 _ (xor24 s _ hs h)
theorem crc_lt (bs : List Nat) : ∀ s, s < 16777216 → bytesN bs → crc s bs < 16777216 := by
  induction bs with
  | nil => intro s hs _; exact hs
  | cons b bs ih => intro s hs hb; exact ih _ (stepB_lt s b hs (hb b (by simp))) (fun c hc => hb c (by simp [hc]))
theorem crc_append (s : Nat) (a b : List Nat) : crc s (a ++ b) = crc (crc s a) b := by unfold crc; rw [List.foldl_append]
theorem stepB_lin (s t b c : Nat) (hs : s < 16777216) (ht : t < 16777216) (hb : b < 256) (hc : c < 256) : stepB (s ^^^ t) (b ^^^ c) = stepB s b ^^^ stepB t c := by
  unfold stepB
  have e : (b ^^^ c) * 65536 = (b * 65536) ^^^ (c * 65536) := by
    have := xor_parts 16 b 0 c 0 (by decide) (by decide)
    rw [Nat.xor_self] at this
    rw [show b * 65536 = b * 2 ^ 16 + 0 by omega, show c * 65536 = c * 2 ^ 16 + 0 by omega, this]
    omega
  rw [e, ← itd_lin 8 _ _ (xor24 _ _ hs (by omega)) (xor24 _ _ ht (by omega)), xor_swap]
/-- The sum of bytes with some turned is the sum, with that of what is turned. -/
theorem crc_lin (bs : List Nat) : ∀ (es : List Nat) (s t : Nat), bs.length = es.length → s < 16777216 → t < 16777216 → bytesN bs → bytesN es → crc (s ^^^ t) (List.zipWith (· ^^^ ·) bs es) = crc s bs ^^^ crc t es := by
  induction bs with
  | nil => intro es s t h _ _ _ _; cases es with
    | nil => rfl
    | cons e es => simp at h
  | cons b bs ih =>
    intro es s t h hs ht hb he
    cases es with
    | nil => simp at h
    | cons e es =>
      have h1 := hb b (by simp)
      have h2 := he e (by simp)
      show crc (stepB (s ^^^ t) (b ^^^ e)) (List.zipWith (· ^^^ ·) bs es) = crc (stepB s b) bs ^^^ crc (stepB t e) es
      rw [stepB_lin s t b e hs ht h1 h2]
      exact ih es _ _ (by simpa using h) (stepB_lt s b hs h1) (stepB_lt t e ht h2) (fun c hc => hb c (by simp [hc])) (fun c hc => he c (by simp [hc]))
theorem xor_high (k a b : Nat) (hb : b < 2 ^ k) : (a * 2 ^ k) ^^^ b = a * 2 ^ k + b := by
  have h := xor_parts k a 0 0 b (Nat.two_pow_pos k) hb
  rw [Nat.xor_zero, Nat.zero_xor, Nat.zero_mul, Nat.zero_add, Nat.add_zero] at h
  exact h
theorem xor_three (x y z : Nat) (_hx : x < 256) (hy : y < 256) (hz : z < 256) : x * 65536 + y * 256 + z = (x * 65536) ^^^ ((y * 256) ^^^ z) := by
  have a2 := xor_high 8 y z (by omega)
  have a1 := xor_high 16 x (y * 256 + z) (by omega)
  rw [show 2 ^ 8 = 256 by decide] at a2
  rw [show 2 ^ 16 = 65536 by decide] at a1
  rw [a2, a1, Nat.add_assoc]
/-- Three bytes behind: all 24 bits come to stand. -/
theorem crc_three (s x y z : Nat) (hs : s < 16777216) (hx : x < 256) (hy : y < 256) (hz : z < 256) : crc s [x, y, z] = itd 24 (s ^^^ (x * 65536 + y * 256 + z)) := by
  have e1 : y * 65536 = itd 8 (y * 256) := by rw [itd_small 8 _ (by omega)]; omega
  have e2 : z * 65536 = itd 16 z := by rw [itd_small 16 _ (by omega)]
  have e3 := xor_three x y z hx hy hz
  have hs1 : s ^^^ x * 65536 < 16777216 := xor24 _ _ hs (by omega)
  have hs2 : (s ^^^ x * 65536) ^^^ y * 256 < 16777216 := xor24 _ _ hs1 (by omega)
  show stepB (stepB (stepB s x) y) z = _
  have f1 : stepB (stepB s x) y = itd 16 ((s ^^^ x * 65536) ^^^ y * 256) := by
    unfold stepB
    rw [e1, ← itd_lin 8 _ _ hs1 (by omega)]
    exact (itd_add 8 8 _).symm
  rw [f1]
  unfold stepB
  rw [e2, ← itd_lin 16 _ _ hs2 (by omega), ← itd_add 16 8, e3, ← Nat.xor_assoc, ← Nat.xor_assoc]
theorem xor_zero_iff (a b : Nat) (h : a ^^^ b = 0) : a = b := by
  have := congrArg (fun t => t ^^^ b) h
  simpa [Nat.xor_assoc] using this
/-- Three bytes bring a sum to 0 just if they are its own. -/
theorem crc_three_zero (s x y z : Nat) (hs : s < 16777216) (hx : x < 256) (hy : y < 256) (hz : z < 256) : crc s [x, y, z] = 0 ↔ s = x * 65536 + y * 256 + z := by
  rw [crc_three s x y z hs hx hy hz]
  constructor
  · intro h
    exact xor_zero_iff _ _ (itd_zero 24 _ (xor24 _ _ hs (by omega)) h)
  · intro h; rw [h, Nat.xor_self, itd_nought]
theorem three_own (s x y z : Nat) (hy : y < 256) (hz : z < 256) (h : s = x * 65536 + y * 256 + z) : x = s / 65536 ∧ y = s / 256 % 256 ∧ z = s % 256 := by omega
/-- A sum that isn't 0 stays so, whatever noughts follow. -/
theorem crc_noughts (n : Nat) : ∀ s, s < 16777216 → s ≠ 0 → crc s (List.replicate n 0) ≠ 0 := by
  induction n with
  | zero => intro s _ h; exact h
  | succ n ih =>
    intro s hs h
    rw [List.replicate_succ]
    refine ih (stepB s 0) (stepB_lt s 0 hs (by decide)) (fun h0 => h ?_)
    unfold stepB at h0
    rw [Nat.zero_mul, Nat.xor_zero] at h0
    exact itd_zero 8 s hs h0
theorem crc_from_nought (n : Nat) : crc 0 (List.replicate n 0) = 0 := by
  induction n with
  | zero => rfl
  | succ n ih => rw [List.replicate_succ]; show crc (stepB 0 0) _ = 0; rw [show stepB 0 0 = 0 by unfold stepB; rw [Nat.zero_mul, Nat.xor_self, itd_nought]]; exact ih
/-- One byte turned, or a byte's last bit and the next one's first, in the midst of noughts: the sum isn't 0. -/
theorem crc_one (m n e : Nat) (he : e < 256) (h0 : e ≠ 0) : crc 0 (List.replicate m 0 ++ e :: List.replicate n 0) ≠ 0 := by
  rw [crc_append, crc_from_nought]
  show crc (stepB 0 e) _ ≠ 0
  refine crc_noughts n _ (stepB_lt 0 e (by decide) he) (fun h => h0 ?_)
  unfold stepB at h
  rw [Nat.zero_xor] at h
  have := itd_zero 8 _ (by omega) h
  omega
theorem crc_two (m n : Nat) : crc 0 (List.replicate m 0 ++ 1 :: 128 :: List.replicate n 0) ≠ 0 := by
  rw [crc_append, crc_from_nought]
  show crc (stepB (stepB 0 1) 128) _ ≠ 0
  exact crc_noughts n _ (stepB_lt _ 128 (stepB_lt 0 1 (by decide) (by decide)) (by decide)) (by decide +kernel)
end Go.Proofs.Ytnllacoimffjpaa
