/- Plain arithmetic of layer 1's numbers: cutting to so many bits, turning, counting bits. Nothing of the program. -/
import Derived.Laws.Bits64b
import Derived.Laws.BitsLemmas
import Derived.Lib.TrailingZeros
import Derived.RowKit
namespace Go.Proofs.YthmccldkknhejaaDoor
open Go.RowKit

/-! ### Cutting -/
/-- The number of a number's lowest b bits. -/
def cutI (n : Int) (b : Nat) : Int := (n + 2 ^ (b - 1)) % 2 ^ b - 2 ^ (b - 1)

theorem two_split (b : Nat) (h : 1 ≤ b) : (2 : Int) ^ b = 2 * 2 ^ (b - 1) := by
  obtain ⟨k, rfl⟩ : ∃ k, b = k + 1 := ⟨b - 1, by omega⟩
  simp [Int.pow_succ, Int.mul_comm]

theorem two_pos (b : Nat) : (0 : Int) < 2 ^ b := Int.pow_pos (by decide)

theorem cut_bounds (n : Int) (b : Nat) (h : 1 ≤ b) : -2 ^ (b - 1) ≤ cutI n b ∧ cutI n b < 2 ^ (b - 1) := by
  have e := two_split b h
  have p := two_pos (b - 1)
  unfold cutI
  rw [e]
  generalize (2 : Int) ^ (b - 1) = H at *
  have h1 := Int.emod_nonneg (n + H) (show 2 * H ≠ 0 by omega)
  have h2 := Int.emod_lt_of_pos (n + H) (show 0 < 2 * H by omega)
  omega

theorem cut_self (n : Int) (b : Nat) (h : 1 ≤ b) (h1 : -2 ^ (b - 1) ≤ n) (h2 : n < 2 ^ (b - 1)) : cutI n b = n := by
  have e := two_split b h
  unfold cutI
  rw [e]
  generalize (2 : Int) ^ (b - 1) = H at *
  rw [Int.emod_eq_of_lt (by omega) (by omega)]
  omega

theorem cut_cong (n : Int) (b : Nat) : ∃ q : Int, n = cutI n b + 2 ^ b * q := by
  refine ⟨(n + 2 ^ (b - 1)) / 2 ^ b, ?_⟩
  have := Int.emod_add_mul_ediv (n + 2 ^ (b - 1)) (2 ^ b)
  unfold cutI
  omega

theorem cut_of (n m q : Int) (b : Nat) (e : n = m + 2 ^ b * q) : cutI n b = cutI m b := by
  unfold cutI
  rw [e, show m + 2 ^ b * q + 2 ^ (b - 1) = m + 2 ^ (b - 1) + 2 ^ b * q by omega, Int.add_mul_emod_self_left]

theorem cut_fewer (n : Int) (b f : Nat) (h : f ≤ b) : cutI (cutI n b) f = cutI n f := by
  obtain ⟨q, hq⟩ := cut_cong n b
  obtain ⟨d, rfl⟩ : ∃ d, b = f + d := ⟨b - f, by omega⟩
  exact (cut_of n (cutI n (f + d)) (2 ^ d * q) f (by rw [← Int.mul_assoc, ← Int.pow_add]; exact hq)).symm

/-- What shifting up and down comes to. -/
theorem cut_shift (n : Int) (b : Nat) (h : 1 ≤ b) (h2 : b ≤ 64) : wrap64 (n * 2 ^ (64 - b)) / 2 ^ (64 - b) = cutI n b := by
  have e := two_split b h
  have p := two_pos (64 - b)
  have pp := two_pos (b - 1)
  have e64 : (2 : Int) ^ (b - 1) * 2 ^ (64 - b) = 9223372036854775808 := by
    rw [← Int.pow_add, show b - 1 + (64 - b) = 63 by omega]; rfl
  have hw : wrap64 (n * 2 ^ (64 - b)) = cutI n b * 2 ^ (64 - b) := by
    unfold cutI wrap64
    rw [e]
    generalize (2 : Int) ^ (b - 1) = H at *
    generalize (2 : Int) ^ (64 - b) = K at *
    have e1 : n * K + 9223372036854775808 = (n + H) * K := by rw [Int.add_mul, e64]
    have e2 : (18446744073709551616 : Int) = (2 * H) * K := by rw [Int.mul_assoc, e64]; rfl
    rw [e1, e2, Int.mul_comm (n + H) K, Int.mul_comm (2 * H) K, Int.mul_emod_mul_of_pos _ _ p, Int.sub_mul, e64, Int.mul_comm K]
  rw [hw, Int.mul_ediv_cancel _ (by omega)]

/-! ### Zig and Zag -/
def zigI (n : Int) : Int := if n < 0 then -2 * n - 1 else 2 * n
def zagI (u : Nat) : Int := if u % 2 = 1 then -((u / 2 : Nat) : Int) - 1 else ((u / 2 : Nat) : Int)

theorem xor_all (a : Nat) (h : a < 18446744073709551616) : a ^^^ 18446744073709551615 = 18446744073709551615 - a := by
  apply Nat.eq_of_testBit_eq
  intro i
  have e : 18446744073709551615 - a = 2 ^ 64 - (a + 1) := by omega
  have e2 : (18446744073709551615 : Nat) = 2 ^ 64 - (0 + 1) := by decide
  rw [Nat.testBit_xor, e, Nat.testBit_two_pow_sub_succ (by omega)]
  conv => lhs; rw [e2, Nat.testBit_two_pow_sub_succ (by decide)]
  by_cases hi : i < 64
  · simp [hi]
  · have : a.testBit i = false := Nat.testBit_lt_two_pow (Nat.lt_of_lt_of_le h (by
      have : 2 ^ 64 ≤ 2 ^ i := Nat.pow_le_pow_right (by decide) (by omega)
      omega))
    simp [hi, this]

theorem xor_none (a : Nat) : a ^^^ 0 = a := Nat.xor_zero a

theorem bits_xor_i64 (a b : Int) : bits .xor .i64 a b = IntKind.i64.wrap (((BitVec.ofInt 64 a) ^^^ (BitVec.ofInt 64 b)).toNat : Int) := rfl

theorem xor_m1_i64 (a : Int) (h0 : 0 ≤ a) (h : a < 9223372036854775808) : bits .xor .i64 a (-1) = -a - 1 := by
  rw [bits_xor_i64]
  have h1 : (BitVec.ofInt 64 a).toNat = a.toNat := by
    rw [BitVec.toNat_ofInt]; omega
  have h2 : (BitVec.ofInt 64 (-1)).toNat = 18446744073709551615 := by decide
  rw [BitVec.toNat_xor, h1, h2, xor_all _ (by omega), IntKind.wrap_i64]
  omega

theorem xor_0_i64 (a : Int) (h0 : 0 ≤ a) (h : a < 9223372036854775808) : bits .xor .i64 a 0 = a := by
  rw [bits_xor_i64]
  have h1 : (BitVec.ofInt 64 a).toNat = a.toNat := by
    rw [BitVec.toNat_ofInt]; omega
  have h2 : (BitVec.ofInt 64 0).toNat = 0 := by decide
  rw [BitVec.toNat_xor, h1, h2, Nat.xor_zero, IntKind.wrap_i64]
  omega

theorem zig_walk (n : Int) (h1 : -9223372036854775808 ≤ n) (h2 : n < 9223372036854775808) :
    bits .xor .u64 (IntKind.u64.wrap (wrap64 (n * 2))) (IntKind.u64.wrap (n / 9223372036854775808)) = zigI n := by
  unfold zigI
  have ea : IntKind.u64.wrap (wrap64 (n * 2)) = (((n * 2) % 18446744073709551616).toNat : Int) := by
    rw [IntKind.wrap_u64]; unfold wrap64; omega
  rw [ea]
  by_cases hn : n < 0
  · have eb : IntKind.u64.wrap (n / 9223372036854775808) = ((18446744073709551615 : Nat) : Int) := by
      rw [IntKind.wrap_u64]; omega
    rw [eb, bits_xor_u64_nat _ _ (by omega) (by omega), xor_all _ (by omega), if_pos hn]
    omega
  · have eb : IntKind.u64.wrap (n / 9223372036854775808) = ((0 : Nat) : Int) := by
      rw [IntKind.wrap_u64]; omega
    rw [eb, bits_xor_u64_nat _ _ (by omega) (by omega), Nat.xor_zero, if_neg hn]
    omega

theorem and_one (u : Nat) (h : u < 18446744073709551616) : bits .and .u64 (u : Int) 1 = ((u % 2 : Nat) : Int) := by
  have := bits_and_u64_nat u 1 h (by decide)
  rw [show ((1 : Nat) : Int) = 1 from rfl] at this
  rw [this, Nat.and_one_is_mod]

theorem zag_walk (u : Nat) (h : u < 18446744073709551616) :
    bits .xor .i64 ((u : Int) / 2) (wrap64 (-wrap64 (bits .and .u64 (u : Int) 1))) = zagI u := by
  rw [and_one u h]
  unfold zagI
  by_cases hu : u % 2 = 1
  · rw [if_pos hu, hu, show wrap64 (-wrap64 ((1 : Nat) : Int)) = -1 by decide +kernel, xor_m1_i64 _ (by omega) (by omega)]
    omega
  · rw [if_neg hu, show u % 2 = 0 by omega, show wrap64 (-wrap64 ((0 : Nat) : Int)) = 0 by decide +kernel, xor_0_i64 _ (by omega) (by omega)]
    omega

theorem zag_zig (n : Int) : zagI (zigI n).toNat = n := by
  unfold zigI zagI
  by_cases h : n < 0
  · rw [if_pos h, if_pos (by omega)]; omega
  · rw [if_neg h, if_neg (by omega)]; omega

theorem zig_zag (u : Nat) : zigI (zagI u) = u := by
  unfold zigI zagI
  by_cases h : u % 2 = 1
  · rw [if_pos h, if_pos (by omega)]; omega
  · rw [if_neg h, if_neg (by omega)]; omega

/-! ### Counting bits -/
def pc (n : Nat) : Nat := if h : n = 0 then 0 else n % 2 + pc (n / 2)
termination_by n
decreasing_by omega

theorem pc_zero : pc 0 = 0 := by unfold pc; simp
theorem pc_step (n : Nat) : pc n = n % 2 + pc (n / 2) := by
  by_cases h : n = 0
  · subst h; simp [pc_zero]
  · conv => lhs; unfold pc
    rw [dif_neg h]
theorem pc_two (t m : Nat) (h : t < 2) : pc (2 * m + t) = t + pc m := by
  rw [pc_step, show (2 * m + t) % 2 = t by omega, show (2 * m + t) / 2 = m by omega]
/-- Bits are counted by parts. -/
theorem pc_parts (k : Nat) : ∀ a b : Nat, b < 2 ^ k → pc (a * 2 ^ k + b) = pc a + pc b := by
  induction k with
  | zero => intro a b h; have : b = 0 := by simpa using h
            subst this; simp [pc_zero]
  | succ k ih =>
    intro a b h
    rw [Nat.pow_succ] at h
    have e : a * 2 ^ (k + 1) + b = 2 * (a * 2 ^ k + b / 2) + b % 2 := by
      rw [Nat.pow_succ]
      have : a * (2 ^ k * 2) = 2 * (a * 2 ^ k) := by rw [← Nat.mul_assoc, Nat.mul_comm]
      omega
    rw [e, pc_two _ _ (by omega), ih _ _ (by omega), pc_step b]
    omega
theorem pc_le (k : Nat) : ∀ n, n < 2 ^ k → pc n ≤ k := by
  induction k with
  | zero => intro n h; have : n = 0 := by simpa using h
            subst this; simp [pc_zero]
  | succ k ih => intro n h; rw [Nat.pow_succ] at h; rw [pc_step]; have := ih (n / 2) (by omega); omega

/-! ### Turning bits -/
/-- Turned by one place. -/
def rot1 (u : Nat) : Nat := 2 * (u % 9223372036854775808) + u / 9223372036854775808
def rotK (u : Nat) : Nat → Nat
  | 0 => u
  | k + 1 => rot1 (rotK u k)
theorem rot1_lt (u : Nat) (h : u < 18446744073709551616) : rot1 u < 18446744073709551616 := by unfold rot1; omega
theorem rotK_lt (u k : Nat) (h : u < 18446744073709551616) : rotK u k < 18446744073709551616 := by
  induction k with
  | zero => exact h
  | succ k ih => exact rot1_lt _ ih
theorem rotK_add (u a b : Nat) : rotK (rotK u a) b = rotK u (a + b) := by
  induction b with
  | zero => rfl
  | succ b ih => show rot1 _ = rot1 (rotK u (a + b)); rw [ih]
theorem pc_rot1 (u : Nat) (h : u < 18446744073709551616) : pc (rot1 u) = pc u := by
  unfold rot1
  rw [pc_two _ _ (by omega)]
  have := pc_parts 63 (u / 9223372036854775808) (u % 9223372036854775808) (by omega)
  rw [show u / 9223372036854775808 * 2 ^ 63 + u % 9223372036854775808 = u by omega] at this
  rw [this]
  have : u / 9223372036854775808 = 0 ∨ u / 9223372036854775808 = 1 := by omega
  rcases this with h | h <;> rw [h]
  · simp [pc_zero]
  · rw [show pc 1 = 1 by rw [pc_step]; simp [pc_zero]]
theorem pc_rotK (u k : Nat) (h : u < 18446744073709551616) : pc (rotK u k) = pc u := by
  induction k with
  | zero => rfl
  | succ k ih => show pc (rot1 _) = _; rw [pc_rot1 _ (rotK_lt u k h), ih]

theorem pow_split (s : Nat) (h : s ≤ 64) : 2 ^ s * 2 ^ (64 - s) = (18446744073709551616 : Nat) := by
  rw [← Nat.pow_add, show s + (64 - s) = 64 by omega]

/-- Turned by s places: the lower bits go up, the upper ones come down. -/
theorem rotK_eq (u : Nat) (h : u < 18446744073709551616) : ∀ s, s ≤ 64 → rotK u s = u % 2 ^ (64 - s) * 2 ^ s + u / 2 ^ (64 - s) := by
  intro s
  induction s with
  | zero => intro _; show u = _; rw [show 2 ^ (64 - 0) = (18446744073709551616 : Nat) by decide]; omega
  | succ s ih =>
    intro hs
    show rot1 (rotK u s) = _
    rw [ih (by omega)]
    have e1 : 2 ^ (64 - s) = 2 * 2 ^ (64 - (s + 1)) := by rw [show 64 - s = (64 - (s + 1)) + 1 by omega, Nat.pow_succ, Nat.mul_comm]
    have e2 : 2 ^ s * 2 ^ (64 - (s + 1)) = 9223372036854775808 := by rw [← Nat.pow_add, show s + (64 - (s + 1)) = 63 by omega]
    have e3 : 2 ^ (s + 1) = 2 * 2 ^ s := by rw [Nat.pow_succ, Nat.mul_comm]
    have p : 0 < 2 ^ (64 - (s + 1)) := Nat.two_pow_pos _
    rw [e1, e3]
    generalize 2 ^ (64 - (s + 1)) = K at *
    generalize 2 ^ s = S at *
    -- u = h (2 K) + t K + l
    have hd : u / (2 * K) = u / K / 2 := by rw [Nat.mul_comm, Nat.div_div_eq_div_mul]
    have hm : u % (2 * K) = u / K % 2 * K + u % K := by
      rw [Nat.mul_comm 2 K, Nat.mod_mul, Nat.mul_comm K]; omega
    have hq : u / K < 2 * S := by
      rw [Nat.div_lt_iff_lt_mul p, Nat.mul_assoc, e2]; omega
    have hl : u % K < K := Nat.mod_lt _ p
    have hl2 : u % K * S + S ≤ 9223372036854775808 := by
      have : (u % K + 1) * S ≤ K * S := Nat.mul_le_mul_right _ hl
      rw [Nat.mul_comm K S, e2, Nat.add_mul] at this; omega
    have hk : u / K % 2 * K * S = u / K % 2 * 9223372036854775808 := by
      rw [Nat.mul_assoc, Nat.mul_comm K S, e2]
    rw [hd, hm, Nat.add_mul, hk]
    unfold rot1
    have ex : u % K * (2 * S) = 2 * (u % K * S) := by rw [← Nat.mul_assoc, Nat.mul_comm _ 2, Nat.mul_assoc]
    rw [ex]
    generalize u % K * S = L at *
    generalize u / K = q at *
    have : q % 2 = 0 ∨ q % 2 = 1 := by omega
    rcases this with h2 | h2 <;> rw [h2] <;> omega

theorem rotK_64 (u : Nat) (h : u < 18446744073709551616) : rotK u 64 = u := by
  rw [rotK_eq u h 64 (by omega)]; simp [Nat.mod_one]

theorem rotK_mod (u k : Nat) (h : u < 18446744073709551616) : rotK u (k % 64) = rotK u k := by
  have : ∀ q, rotK u (64 * q) = u := by
    intro q
    induction q with
    | zero => rfl
    | succ q ih => rw [Nat.mul_succ, ← rotK_add, ih, rotK_64 u h]
  have e := rotK_add u (64 * (k / 64)) (k % 64)
  rw [this, show 64 * (k / 64) + k % 64 = k by omega] at e
  exact e

/-- Turned by a number of places, of whatever sign. -/
def turnI (u : Nat) (k : Int) : Nat := rotK u (k % 64).toNat

end Go.Proofs.YthmccldkknhejaaDoor
