/- Plain arithmetic: turning there and back, counting by parts, the lowest bit taken away. Nothing of the program. -/
import Derived.Test.YtnllacoimffjpaaOnes
namespace Go.Proofs.Ytnllacoimffjpaa
open Go.RowKit

theorem turn_lt (u : Nat) (k : Int) (h : u < 18446744073709551616) : turnI u k < 18446744073709551616 := rotK_lt u _ h
theorem turn_congr (u : Nat) (a b : Int) (h : a % 64 = b % 64) : turnI u a = turnI u b := by unfold turnI; rw [h]
theorem turn_turn (u : Nat) (a b : Int) (h : u < 18446744073709551616) : turnI (turnI u a) b = turnI u (a + b) := by
  unfold turnI
  rw [rotK_add, ← rotK_mod u ((a % 64).toNat + (b % 64).toNat) h]
  congr 1
  omega
theorem turn_zero (u : Nat) (a : Int) (h : a % 64 = 0) : turnI u a = u := by unfold turnI; rw [h]; rfl
theorem tmod64 (a : Int) : -64 < a.tmod 64 ∧ a.tmod 64 < 64 ∧ a.tmod 64 % 64 = a % 64 := by
  have h1 := Int.lt_tmod_of_pos a (b := 64) (by decide)
  have h2 := Int.tmod_lt_of_pos a (b := 64) (by decide)
  have h3 := Int.tmod_def a 64
  omega
theorem turn_back (u : Nat) (a : Int) (h : u < 18446744073709551616) : turnI (turnI u a) (-(a.tmod 64)) = u := by
  rw [turn_turn u _ _ h]
  have := tmod64 a
  exact turn_zero u _ (by omega)
theorem turn_sum (u : Nat) (a b : Int) (h : u < 18446744073709551616) : turnI (turnI u a) b = turnI u (a.tmod 64 + b.tmod 64) := by
  rw [turn_turn u _ _ h]
  have := tmod64 a
  have := tmod64 b
  exact turn_congr u _ _ (by omega)
theorem pc_turn (u : Nat) (k : Int) (h : u < 18446744073709551616) : pc (turnI u k) = pc u := pc_rotK u _ h
theorem ctz_zero_iff (u : Nat) (h : u < 18446744073709551616) : (((u : Int) == 0) == (((Lib.ctz 64 u : Nat) : Int) == 64)) = true := by
  by_cases h0 : u = 0
  · subst h0; decide
  · obtain ⟨m, _, hl⟩ := ctz_spec u h0 h
    have a1 : ((u : Int) == 0) = false := by simp; omega
    have a2 : (((Lib.ctz 64 u : Nat) : Int) == 64) = false := by simp; omega
    rw [a1, a2]; rfl

theorem xor_parts (k a b c d : Nat) (hb : b < 2 ^ k) (hd : d < 2 ^ k) : (a * 2 ^ k + b) ^^^ (c * 2 ^ k + d) = (a ^^^ c) * 2 ^ k + (b ^^^ d) := by
  have p : 0 < 2 ^ k := Nat.two_pow_pos k
  have h1 := Nat.xor_div_two_pow (a := a * 2 ^ k + b) (b := c * 2 ^ k + d) (n := k)
  have h2 := Nat.xor_mod_two_pow (a := a * 2 ^ k + b) (b := c * 2 ^ k + d) (n := k)
  have e1 : (a * 2 ^ k + b) / 2 ^ k = a := by rw [Nat.mul_comm, Nat.mul_add_div p, Nat.div_eq_of_lt hb, Nat.add_zero]
  have e2 : (c * 2 ^ k + d) / 2 ^ k = c := by rw [Nat.mul_comm, Nat.mul_add_div p, Nat.div_eq_of_lt hd, Nat.add_zero]
  have e3 : (a * 2 ^ k + b) % 2 ^ k = b := by rw [Nat.mul_comm, Nat.mul_add_mod, Nat.mod_eq_of_lt hb]
  have e4 : (c * 2 ^ k + d) % 2 ^ k = d := by rw [Nat.mul_comm, Nat.mul_add_mod, Nat.mod_eq_of_lt hd]
  rw [e1, e2] at h1
  rw [e3, e4] at h2
  have h3 := Nat.mod_add_div ((a * 2 ^ k + b) ^^^ (c * 2 ^ k + d)) (2 ^ k)
  rw [h1, h2, Nat.mul_comm (2 ^ k)] at h3
  omega
/-- The higher bits, and the rest. -/
theorem high_low (u k : Nat) : u ^^^ (u / 2 ^ k * 2 ^ k) = u % 2 ^ k := by
  have p : 0 < 2 ^ k := Nat.two_pow_pos k
  have h := xor_parts k (u / 2 ^ k) (u % 2 ^ k) (u / 2 ^ k) 0 (Nat.mod_lt _ p) p
  have e : u / 2 ^ k * 2 ^ k + u % 2 ^ k = u := by have := Nat.div_add_mod u (2 ^ k); rw [Nat.mul_comm] at this; exact this
  rw [e, Nat.add_zero, Nat.xor_self, Nat.xor_zero, Nat.zero_mul, Nat.zero_add] at h
  exact h
theorem pc_high_low (u k : Nat) : pc (u / 2 ^ k * 2 ^ k) + pc (u % 2 ^ k) = pc u := by
  have p : 0 < 2 ^ k := Nat.two_pow_pos k
  have h1 := pc_parts k (u / 2 ^ k) 0 p
  have h2 := pc_parts k (u / 2 ^ k) (u % 2 ^ k) (Nat.mod_lt _ p)
  have e : u / 2 ^ k * 2 ^ k + u % 2 ^ k = u := by have := Nat.div_add_mod u (2 ^ k); rw [Nat.mul_comm] at this; exact this
  rw [Nat.add_zero, pc_zero] at h1
  rw [e] at h2
  omega
/-- Without its lowest bit a word has one less, and no lower one. -/
theorem rest_low (u : Nat) (h0 : u ≠ 0) (h : u < 18446744073709551616) :
    u ^^^ 2 ^ Lib.ctz 64 u < 18446744073709551616 ∧ pc (u ^^^ 2 ^ Lib.ctz 64 u) + 1 = pc u ∧ Lib.ctz 64 u < Lib.ctz 64 (u ^^^ 2 ^ Lib.ctz 64 u) ∧ Lib.ctz 64 u < 64 := by
  obtain ⟨m, hm, hl⟩ := ctz_spec u h0 h
  generalize Lib.ctz 64 u = j at *
  have pj : 0 < 2 ^ j := Nat.two_pow_pos j
  have lj : 2 ^ j < 2 ^ (j + 1) := Nat.pow_lt_pow_right (by decide) (by omega)
  have eu : u = m * 2 ^ (j + 1) + 2 ^ j := by rw [hm, Nat.pow_succ, Nat.mul_add, Nat.mul_one, Nat.mul_comm m, Nat.mul_assoc]
  have hx := xor_parts (j + 1) m (2 ^ j) 0 (2 ^ j) lj lj
  rw [← eu, Nat.zero_mul, Nat.zero_add, Nat.xor_zero, Nat.xor_self, Nat.add_zero] at hx
  have hlt : u ^^^ 2 ^ j < 18446744073709551616 := by rw [hx]; omega
  refine ⟨hlt, ?_, ?_, hl⟩
  · have h1 := pc_parts (j + 1) m 0 (Nat.two_pow_pos _)
    have h2 := pc_parts (j + 1) m (2 ^ j) lj
    have h3 := pc_parts j 1 0 pj
    have h4 : pc 1 = 1 := by rw [pc_step]; simp [pc_zero]
    rw [Nat.add_zero, pc_zero] at h1 h3
    rw [Nat.one_mul, h4] at h3
    rw [← eu] at h2
    rw [hx]
    omega
  · by_cases hm0 : m = 0
    · subst hm0
      rw [hx, Nat.zero_mul]
      exact hl
    · have hne : u ^^^ 2 ^ j ≠ 0 := by
        rw [hx]
        have := Nat.mul_pos (Nat.pos_of_ne_zero hm0) (Nat.two_pow_pos (j + 1))
        omega
      obtain ⟨m', hm', _⟩ := ctz_spec _ hne hlt
      generalize Lib.ctz 64 (u ^^^ 2 ^ j) = i at *
      rcases Nat.lt_or_ge j i with hlt | hge
      · exact hlt
      · exfalso
        obtain ⟨d, rfl⟩ : ∃ d, j = i + d := ⟨j - i, by omega⟩
        rw [hx, show i + d + 1 = i + (d + 1) by omega, Nat.pow_add, ← Nat.mul_assoc, Nat.mul_comm m, Nat.mul_assoc] at hm'
        have := Nat.eq_of_mul_eq_mul_left (Nat.two_pow_pos i) hm'
        rw [Nat.pow_succ, ← Nat.mul_assoc] at this
        omega
end Go.Proofs.Ytnllacoimffjpaa
