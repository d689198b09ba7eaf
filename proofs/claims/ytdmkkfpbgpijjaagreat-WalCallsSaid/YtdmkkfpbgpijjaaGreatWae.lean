/- Plain arithmetic of layer 1's numbers: cutting to so many bits, turning, counting bits. Nothing of the program. Plain arithmetic: adding the bits of a word by parts (as package math/bits does) counts them; the lowest bit. Nothing of the program. Layer 1 for the stages above it: Zig, Zag, mask. Layer 1 for the stages above it: are widths right? Layer 1 for the stages above it: the walks of the calls that make lists: a word's bytes, a word's numbers. -/
import Derived.Laws.Bits64b
import Derived.Laws.BitsLemmas
import Derived.Lib.TrailingZeros
import Derived.RowKit
import Derived.Test.YtdmkkfpbgpijjaaGreatWaa
import Derived.WalkKit
import Derived.WalkSpells
import Derived.WalkLawsBesides
import Derived.Deep.QuietTactic
import Derived.BigQuiet
import Derived.Lib.Hide
import Derived.Deep.OwnRows
namespace Go.Proofs.YtdmkkfpbgpijjaaGreat
open Go.RowKit

/-! ### Cutting -/
/-- The number of a number's lowest b bits. -/
def cutI (n : Int) (b : Nat) : Int := (n + 2 ^ (b - 1)) % 2 ^ b - 2 ^ (b - 1)

theorem two_pos (b : Nat) : (0 : Int) < 2 ^ b := Int.pow_pos (by decide)

def zigI (n : Int) : Int := if n < 0 then -2 * n - 1 else 2 * n
def zagI (u : Nat) : Int := if u % 2 = 1 then -((u / 2 : Nat) : Int) - 1 else ((u / 2 : Nat) : Int)

theorem xor_all (a : Nat) (h : a < 18446744073709551616) : a ^^^ 18446744073709551615 = 18446744073709551615 - a := by
  apply Nat.eq_of_testBit_eq
  intro i
  have e : 18446744073709551615 - a = 2 ^ 64 - (a + 1) := by omega
  have e2 : (18446744073709551615 : Nat) = 2 ^ 64 - (0 + 1) := by decide
  rw [Nat.testBit_xor, e, Nat.testBit_two_pow_sub_succ (by omega)]
  conv => lhs; rw [e2, Nat.testBit_two_pow_sub_succ (by decide)]
  by_cases hi : i < 64
  · simp [hi]
  · have : a.testBit i = false := Nat.testBit_lt_two_pow (Nat.lt_of_lt_of_le h (by
      have : 2 ^ 64 ≤ 2 ^ i := Nat.pow_le_pow_right (by decide) (by omega)
      omega))
    simp [hi, this]

theorem bits_xor_i64 (a b : Int) : bits .xor .i64 a b = IntKind.i64.wrap (((BitVec.ofInt 64 a) ^^^ (BitVec.ofInt 64 b)).toNat : Int) := rfl

theorem xor_m1_i64 (a : Int) (h0 : 0 ≤ a) (h : a < 9223372036854775808) : bits .xor .i64 a (-1) = -a - 1 := by
  rw [bits_xor_i64]
  have h1 : (BitVec.ofInt 64 a).toNat = a.toNat := by
    rw [BitVec.toNat_ofInt]; omega
  have h2 : (BitVec.ofInt 64 (-1)).toNat = 18446744073709551615 := by decide
  rw [BitVec.toNat_xor, h1, h2, xor_all _ (by omega), IntKind.wrap_i64]
  omega

theorem xor_0_i64 (a : Int) (h0 : 0 ≤ a) (h : a < 9223372036854775808) : bits .xor .i64 a 0 = a := by
  rw [bits_xor_i64]
  have h1 : (BitVec.ofInt 64 a).toNat = a.toNat := by
    rw [BitVec.toNat_ofInt]; omega
  have h2 : (BitVec.ofInt 64 0).toNat = 0 := by decide
  rw [BitVec.toNat_xor, h1, h2, Nat.xor_zero, IntKind.wrap_i64]
  omega

theorem zig_walk (n : Int) (h1 : -9223372036854775808 ≤ n) (h2 : n < 9223372036854775808) :
    bits .xor .u64 (IntKind.u64.wrap (wrap64 (n * 2))) (IntKind.u64.wrap (n / 9223372036854775808)) = zigI n := by
  unfold zigI
  have ea : IntKind.u64.wrap (wrap64 (n * 2)) = (((n * 2) % 18446744073709551616).toNat : Int) := by
    rw [IntKind.wrap_u64]; unfold wrap64; omega
  rw [ea]
  by_cases hn : n < 0
  · have eb : IntKind.u64.wrap (n / 9223372036854775808) = ((18446744073709551615 : Nat) : Int) := by
      rw [IntKind.wrap_u64]; omega
    rw [eb, bits_xor_u64_nat _ _ (by omega) (by omega), xor_all _ (by omega), if_pos hn]
    omega
  · have eb : IntKind.u64.wrap (n / 9223372036854775808) = ((0 : Nat) : Int) := by
      rw [IntKind.wrap_u64]; omega
    rw [eb, bits_xor_u64_nat _ _ (by omega) (by omega), Nat.xor_zero, if_neg hn]
    omega

theorem and_one (u : Nat) (h : u < 18446744073709551616) : bits .and .u64 (u : Int) 1 = ((u % 2 : Nat) : Int) := by
  have := bits_and_u64_nat u 1 h (by decide)
  rw [show ((1 : Nat) : Int) = 1 from rfl] at this
  rw [this, Nat.and_one_is_mod]

theorem zag_walk (u : Nat) (h : u < 18446744073709551616) :
    bits .xor .i64 ((u : Int) / 2) (wrap64 (-wrap64 (bits .and .u64 (u : Int) 1))) = zagI u := by
  rw [and_one u h]
  unfold zagI
  by_cases hu : u % 2 = 1
  · rw [if_pos hu, hu, show wrap64 (-wrap64 ((1 : Nat) : Int)) = -1 by decide +kernel, xor_m1_i64 _ (by omega) (by omega)]
    omega
  · rw [if_neg hu, show u % 2 = 0 by omega, show wrap64 (-wrap64 ((0 : Nat) : Int)) = 0 by decide +kernel, xor_0_i64 _ (by omega) (by omega)]
    omega

theorem zag_zig (n : Int) : zagI (zigI n).toNat = n := by
  unfold zigI zagI
  by_cases h : n < 0
  · rw [if_pos h, if_pos (by omega)]; omega
  · rw [if_neg h, if_neg (by omega)]; omega

def pc (n : Nat) : Nat := if h : n = 0 then 0 else n % 2 + pc (n / 2)
termination_by n
decreasing_by omega

theorem pc_zero : pc 0 = 0 := by unfold pc; simp
theorem pc_step (n : Nat) : pc n = n % 2 + pc (n / 2) := by
  by_cases h : n = 0
  · subst h; simp [pc_zero]
  · conv => lhs; unfold pc
    rw [dif_neg h]
theorem pc_two (t m : Nat) (h : t < 2) : pc (2 * m + t) = t + pc m := by
  rw [pc_step, show (2 * m + t) % 2 = t by omega, show (2 * m + t) / 2 = m by omega]
/-- Bits are counted by parts. -/
theorem pc_parts (k : Nat) : ∀ a b : Nat, b < 2 ^ k → pc (a * 2 ^ k + b) = pc a + pc b := by
  induction k with
  | zero => intro a b h; have : b = 0 := by simpa using h
            subst this; simp [pc_zero]
  | succ k ih =>
    intro a b h
    rw [Nat.pow_succ] at h
    have e : a * 2 ^ (k + 1) + b = 2 * (a * 2 ^ k + b / 2) + b % 2 := by
      rw [Nat.pow_succ]
      have : a * (2 ^ k * 2) = 2 * (a * 2 ^ k) := by rw [← Nat.mul_assoc, Nat.mul_comm]
      omega
    rw [e, pc_two _ _ (by omega), ih _ _ (by omega), pc_step b]
    omega
theorem pc_le (k : Nat) : ∀ n, n < 2 ^ k → pc n ≤ k := by
  induction k with
  | zero => intro n h; have : n = 0 := by simpa using h
            subst this; simp [pc_zero]
  | succ k ih => intro n h; rw [Nat.pow_succ] at h; rw [pc_step]; have := ih (n / 2) (by omega); omega

/-! ### Turning bits -/
/-- Turned by one place. -/
def rot1 (u : Nat) : Nat := 2 * (u % 9223372036854775808) + u / 9223372036854775808
def rotK (u : Nat) : Nat → Nat
  | 0 => u
  | k + 1 => rot1 (rotK u k)
/-- Turned by a number of places, of whatever sign. -/
def turnI (u : Nat) (k : Int) : Nat := rotK u (k % 64).toNat

end Go.Proofs.YtdmkkfpbgpijjaaGreat
namespace Go.Proofs.YtdmkkfpbgpijjaaGreat
open Go.RowKit

theorem and_split (a b c d : Nat) (ha : a < 256) (hc : c < 256) : (a + 256 * b) &&& (c + 256 * d) = (a &&& c) + 256 * (b &&& d) := by
  have h1 := Nat.and_div_two_pow (a := a + 256 * b) (b := c + 256 * d) (n := 8)
  have h2 := Nat.and_mod_two_pow (a := a + 256 * b) (b := c + 256 * d) (n := 8)
  rw [show (2 : Nat) ^ 8 = 256 from rfl] at h1 h2
  rw [show (a + 256 * b) / 256 = b by omega, show (c + 256 * d) / 256 = d by omega] at h1
  rw [show (a + 256 * b) % 256 = a by omega, show (c + 256 * d) % 256 = c by omega] at h2
  have h3 := Nat.mod_add_div ((a + 256 * b) &&& (c + 256 * d)) 256
  rw [h1, h2] at h3
  exact h3.symm

/-- k bytes, each the same. -/
def rep (m : Nat) : Nat → Nat
  | 0 => 0
  | k + 1 => m + 256 * rep m k

theorem rep_succ (m k : Nat) : rep m (k + 1) = m + 256 * rep m k := rfl

def o1 (k u : Nat) : Nat := (u / 2 &&& rep 0x55 k) + (u &&& rep 0x55 k)
def o2 (k u : Nat) : Nat := (o1 k u / 4 &&& rep 0x33 k) + (o1 k u &&& rep 0x33 k)
def o3 (k u : Nat) : Nat := (o2 k u / 16 + o2 k u) &&& rep 0x0f k
def b1 (c : Nat) : Nat := (c / 2 &&& 0x55) + (c &&& 0x55)
def b2 (c : Nat) : Nat := (b1 c / 4 &&& 0x33) + (b1 c &&& 0x33)

theorem b1_up : ∀ t, t < 2 → ∀ c, c < 256 → (c / 2 + 128 * t) &&& 0x55 = c / 2 &&& 0x55 := by decide +kernel
theorem b1_lt : ∀ c, c < 256 → b1 c < 256 := by decide +kernel
theorem b2_up : ∀ t, t < 4 → ∀ c, c < 256 → (c / 4 + 64 * t) &&& 0x33 = c / 4 &&& 0x33 := by decide +kernel
theorem b2_lt : ∀ c, c < 256 → b2 c ≤ 68 ∧ b2 c % 16 ≤ 4 := by decide +kernel
theorem b3_up : ∀ t, t < 5 → ∀ c, c < 69 → (c / 16 + c + 16 * t) &&& 0x0f = (c / 16 + c) &&& 0x0f := by decide +kernel
/-- The sum of a byte's bits. -/
def c8 (c : Nat) : Nat := c % 2 + c / 2 % 2 + c / 4 % 2 + c / 8 % 2 + c / 16 % 2 + c / 32 % 2 + c / 64 % 2 + c / 128 % 2
theorem b3_is : ∀ c, c < 256 → (b2 c / 16 + b2 c) &&& 0x0f = c8 c := by decide +kernel
theorem c8_pc (c : Nat) (h : c < 256) : c8 c = pc c := by
  unfold c8
  rw [pc_step c, pc_step (c / 2), pc_step (c / 2 / 2), pc_step (c / 2 / 2 / 2), pc_step (c / 2 / 2 / 2 / 2), pc_step (c / 2 / 2 / 2 / 2 / 2), pc_step (c / 2 / 2 / 2 / 2 / 2 / 2), pc_step (c / 2 / 2 / 2 / 2 / 2 / 2 / 2)]
  rw [show c / 2 / 2 / 2 / 2 / 2 / 2 / 2 / 2 = 0 by omega, pc_zero]
  omega

theorem o1_step (k c v : Nat) (hc : c < 256) : o1 (k + 1) (c + 256 * v) = b1 c + 256 * o1 k v := by
  unfold o1 b1
  rw [rep_succ]
  have e : (c + 256 * v) / 2 = (c / 2 + 128 * (v % 2)) + 256 * (v / 2) := by omega
  rw [e, and_split _ _ _ _ (by omega) (by decide), and_split _ _ _ _ hc (by decide), b1_up _ (by omega) c hc]
  omega
theorem o2_step (k c v : Nat) (hc : c < 256) : o2 (k + 1) (c + 256 * v) = b2 c + 256 * o2 k v := by
  unfold o2
  rw [o1_step k c v hc]
  unfold b2
  rw [rep_succ]
  have hb := b1_lt c hc
  generalize b1 c = d at *
  generalize o1 k v = w at *
  have e : (d + 256 * w) / 4 = (d / 4 + 64 * (w % 4)) + 256 * (w / 4) := by omega
  rw [e, and_split _ _ _ _ (by omega) (by decide), and_split _ _ _ _ hb (by decide), b2_up _ (by omega) d hb]
  omega
theorem o2_low (k v : Nat) : v < 256 ^ k → o2 k v % 16 ≤ 4 := by
  cases k with
  | zero => intro h; have : v = 0 := by simpa using h
            subst this; decide
  | succ k =>
    intro _
    have e := o2_step k (v % 256) (v / 256) (by omega)
    rw [show v % 256 + 256 * (v / 256) = v by omega] at e
    have := (b2_lt (v % 256) (by omega)).2
    rw [e]; omega
theorem o3_step (k c v : Nat) (hc : c < 256) (hv : v < 256 ^ k) : o3 (k + 1) (c + 256 * v) = pc c + 256 * o3 k v := by
  unfold o3
  rw [o2_step k c v hc, ← c8_pc c hc, ← b3_is c hc]
  have hl := o2_low k v hv
  have hb := (b2_lt c hc).1
  rw [rep_succ]
  generalize b2 c = d at *
  generalize o2 k v = w at *
  have e : (d + 256 * w) / 16 + (d + 256 * w) = (d / 16 + d + 16 * (w % 16)) + 256 * (w / 16 + w) := by omega
  rw [e, and_split _ _ _ _ (by omega) (by decide), b3_up _ (by omega) d (by omega)]

/-- All eight bytes. -/
theorem o3_all (u : Nat) (h : u < 18446744073709551616) : ∃ g0 g1 g2 g3 g4 g5 g6 g7 : Nat, g0 ≤ 8 ∧ g1 ≤ 8 ∧ g2 ≤ 8 ∧ g3 ≤ 8 ∧ g4 ≤ 8 ∧ g5 ≤ 8 ∧ g6 ≤ 8 ∧ g7 ≤ 8 ∧
    pc u = g0 + g1 + g2 + g3 + g4 + g5 + g6 + g7 ∧
    o3 8 u = g0 + 256 * (g1 + 256 * (g2 + 256 * (g3 + 256 * (g4 + 256 * (g5 + 256 * (g6 + 256 * g7)))))) := by
  have s : ∀ k v, v < 256 ^ (k + 1) → o3 (k + 1) v = pc (v % 256) + 256 * o3 k (v / 256) ∧ pc v = pc (v % 256) + pc (v / 256) := by
    intro k v hv
    rw [Nat.pow_succ] at hv
    have e := o3_step k (v % 256) (v / 256) (by omega) (by omega)
    rw [show v % 256 + 256 * (v / 256) = v by omega] at e
    have p := pc_parts 8 (v / 256) (v % 256) (by omega)
    rw [show v / 256 * 2 ^ 8 + v % 256 = v by omega] at p
    exact ⟨e, by omega⟩
  have z : ∀ v, v < 1 → o3 0 v = 0 ∧ pc v = 0 := by
    intro v hv
    have : v = 0 := by omega
    subst this
    exact ⟨by decide, pc_zero⟩
  have l : ∀ v, pc (v % 256) ≤ 8 := fun v => pc_le 8 _ (by omega)
  have s7 := s 7 u (by omega)
  have s6 := s 6 (u / 256) (by omega)
  have s5 := s 5 (u / 256 / 256) (by omega)
  have s4 := s 4 (u / 256 / 256 / 256) (by omega)
  have s3 := s 3 (u / 256 / 256 / 256 / 256) (by omega)
  have s2 := s 2 (u / 256 / 256 / 256 / 256 / 256) (by omega)
  have s1 := s 1 (u / 256 / 256 / 256 / 256 / 256 / 256) (by omega)
  have s0 := s 0 (u / 256 / 256 / 256 / 256 / 256 / 256 / 256) (by omega)
  have zz := z (u / 256 / 256 / 256 / 256 / 256 / 256 / 256 / 256) (by omega)
  refine ⟨_, _, _, _, _, _, _, _, l u, l (u / 256), l (u / 256 / 256), l (u / 256 / 256 / 256), l (u / 256 / 256 / 256 / 256), l (u / 256 / 256 / 256 / 256 / 256), l (u / 256 / 256 / 256 / 256 / 256 / 256), l (u / 256 / 256 / 256 / 256 / 256 / 256 / 256), ?_, ?_⟩
  · rw [s7.2, s6.2, s5.2, s4.2, s3.2, s2.2, s1.2, s0.2, zz.2]; omega
  · rw [s7.1, s6.1, s5.1, s4.1, s3.1, s2.1, s1.1, s0.1, zz.1, Nat.mul_zero, Nat.add_zero]

def o4 (u : Nat) : Nat := (o3 8 u + o3 8 u / 256) % 18446744073709551616
def o5 (u : Nat) : Nat := (o4 u + o4 u / 65536) % 18446744073709551616
def o6 (u : Nat) : Nat := (o5 u + o5 u / 4294967296) % 18446744073709551616
set_option maxHeartbeats 1600000 in
theorem o6_is (u : Nat) (h : u < 18446744073709551616) : o6 u % 128 = pc u ∧ pc u ≤ 64 := by
  obtain ⟨g0, g1, g2, g3, g4, g5, g6, g7, h0, h1, h2, h3, h4, h5, h6, h7, hp, ho⟩ := o3_all u h
  have q3 : o3 8 u / 256 = g1 + 256 * (g2 + 256 * (g3 + 256 * (g4 + 256 * (g5 + 256 * (g6 + 256 * g7))))) := by omega
  have e4 : o4 u = (g0 + g1) + 256 * (g1 + g2) + 65536 * ((g2 + g3) + 256 * (g3 + g4) + 65536 * ((g4 + g5) + 256 * (g5 + g6) + 65536 * ((g6 + g7) + 256 * g7))) := by
    unfold o4; rw [q3, ho, Nat.mod_eq_of_lt (by omega)]; omega
  clear q3 ho
  have q4 : o4 u / 65536 = (g2 + g3) + 256 * (g3 + g4) + 65536 * ((g4 + g5) + 256 * (g5 + g6) + 65536 * ((g6 + g7) + 256 * g7)) := by omega
  have e5 : o5 u = (g0 + g1 + g2 + g3) + 256 * (g1 + g2 + g3 + g4) + 65536 * ((g2 + g3 + g4 + g5) + 256 * (g3 + g4 + g5 + g6)) + 4294967296 * ((g4 + g5 + g6 + g7) + 256 * (g5 + g6 + g7) + 65536 * (g6 + g7) + 16777216 * g7) := by
    unfold o5; rw [q4, e4, Nat.mod_eq_of_lt (by omega)]; omega
  clear q4 e4
  have q5 : o5 u / 4294967296 = (g4 + g5 + g6 + g7) + 256 * (g5 + g6 + g7) + 65536 * (g6 + g7) + 16777216 * g7 := by omega
  have e6 : ∃ r, o6 u = (g0 + g1 + g2 + g3 + g4 + g5 + g6 + g7) + 128 * r := by
    refine ⟨2 * (g1 + g2 + g3 + g4 + g5 + g6 + g7) + 512 * ((g2 + g3 + g4 + g5 + g6 + g7) + 256 * (g3 + g4 + g5 + g6 + g7)) + 33554432 * ((g4 + g5 + g6 + g7) + 256 * (g5 + g6 + g7) + 65536 * (g6 + g7) + 16777216 * g7), ?_⟩
    unfold o6; rw [q5, e5, Nat.mod_eq_of_lt (by omega)]; omega
  obtain ⟨r, e6⟩ := e6
  rw [e6, hp]
  omega

theorem rep55 : rep 0x55 8 = 6148914691236517205 := by decide
theorem rep33 : rep 0x33 8 = 3689348814741910323 := by decide
theorem rep0f : rep 0x0f 8 = 1085102592571150095 := by decide
theorem o_lt (u : Nat) : o1 8 u < 18446744073709551616 ∧ o2 8 u < 18446744073709551616 ∧ o2 8 u / 16 + o2 8 u < 18446744073709551616 := by
  have a1 : u / 2 &&& 6148914691236517205 ≤ 6148914691236517205 := Nat.and_le_right
  have a2 : u &&& 6148914691236517205 ≤ 6148914691236517205 := Nat.and_le_right
  have a3 : o1 8 u / 4 &&& 3689348814741910323 ≤ 3689348814741910323 := Nat.and_le_right
  have a4 : o1 8 u &&& 3689348814741910323 ≤ 3689348814741910323 := Nat.and_le_right
  have e1 : o1 8 u = (u / 2 &&& 6148914691236517205) + (u &&& 6148914691236517205) := by unfold o1; rw [rep55]
  have e2 : o2 8 u = (o1 8 u / 4 &&& 3689348814741910323) + (o1 8 u &&& 3689348814741910323) := by unfold o2; rw [rep33]
  omega

theorem and_nat (a : Nat) (m : Nat) (x : Int) (mi : Int) (hx : x = (a : Int)) (hm : mi = (m : Int)) (ha : a < 18446744073709551616) (hb : m < 18446744073709551616) : bits .and .u64 x mi = ((a &&& m : Nat) : Int) := by
  rw [hx, hm]; exact bits_and_u64_nat a m ha hb
theorem w1 (u : Nat) (hu : u < 18446744073709551616) : IntKind.u64.wrap (bits BinOp.and IntKind.u64 (↑u / 2) 6148914691236517205 + bits BinOp.and IntKind.u64 (↑u) 6148914691236517205) = ((o1 8 u : Nat) : Int) := by
  have l := (o_lt u).1
  have e : o1 8 u = (u / 2 &&& 6148914691236517205) + (u &&& 6148914691236517205) := by unfold o1; rw [rep55]
  rw [and_nat (u / 2) 6148914691236517205 _ _ (by omega) (by omega) (by omega) (by decide), and_nat u 6148914691236517205 _ _ rfl (by omega) hu (by decide), IntKind.wrap_u64]
  omega
theorem w2 (u : Nat) : IntKind.u64.wrap (bits BinOp.and IntKind.u64 (↑(o1 8 u) / 4) 3689348814741910323 + bits BinOp.and IntKind.u64 (↑(o1 8 u)) 3689348814741910323) = ((o2 8 u : Nat) : Int) := by
  obtain ⟨l1, l2, _⟩ := o_lt u
  have e : o2 8 u = (o1 8 u / 4 &&& 3689348814741910323) + (o1 8 u &&& 3689348814741910323) := by unfold o2; rw [rep33]
  rw [and_nat (o1 8 u / 4) 3689348814741910323 _ _ (by omega) (by omega) (by omega) (by decide), and_nat (o1 8 u) 3689348814741910323 _ _ rfl (by omega) l1 (by decide), IntKind.wrap_u64]
  omega
theorem w3 (u : Nat) : bits BinOp.and IntKind.u64 (IntKind.u64.wrap (↑(o2 8 u) / 16 + ↑(o2 8 u))) 1085102592571150095 = ((o3 8 u : Nat) : Int) := by
  obtain ⟨_, _, l3⟩ := o_lt u
  have e : o3 8 u = (o2 8 u / 16 + o2 8 u) &&& 1085102592571150095 := by unfold o3; rw [rep0f]
  rw [and_nat (o2 8 u / 16 + o2 8 u) 1085102592571150095 _ _ (by rw [IntKind.wrap_u64]; omega) (by omega) (by omega) (by decide), e]
theorem w4 (u : Nat) : IntKind.u64.wrap (((o3 8 u : Nat) : Int) + ↑(o3 8 u) / 256) = ((o4 u : Nat) : Int) := by
  unfold o4; rw [IntKind.wrap_u64]; omega
theorem w5 (u : Nat) : IntKind.u64.wrap (((o4 u : Nat) : Int) + ↑(o4 u) / 65536) = ((o5 u : Nat) : Int) := by
  unfold o5; rw [IntKind.wrap_u64]; omega
theorem w6 (u : Nat) : IntKind.u64.wrap (((o5 u : Nat) : Int) + ↑(o5 u) / 4294967296) = ((o6 u : Nat) : Int) := by
  unfold o6; rw [IntKind.wrap_u64]; omega
theorem and_i64_low (a : Int) (k : Nat) (hk : k ≤ 62) : bits .and .i64 a (((2 ^ k - 1 : Nat)) : Int) = a % 2 ^ k := by
  have hp : 0 < 2 ^ k := Nat.two_pow_pos k
  have h62 : 2 ^ k ≤ 2 ^ 62 := Nat.pow_le_pow_right (by decide) hk
  show IntKind.i64.wrap ((BitVec.ofInt 64 a &&& BitVec.ofInt 64 ((2 ^ k - 1 : Nat) : Int)).toNat : Int) = _
  have h2 : (BitVec.ofInt 64 ((2 ^ k - 1 : Nat) : Int)).toNat = 2 ^ k - 1 := by
    rw [BitVec.ofInt_natCast, BitVec.toNat_ofNat]; exact Nat.mod_eq_of_lt (by omega)
  rw [BitVec.toNat_and, h2, Nat.and_two_pow_sub_one_eq_mod, BitVec.toNat_ofInt]
  have e1 : ((a % 2 ^ 64).toNat % 2 ^ k : Nat) = (((a % 2 ^ k).toNat : Nat)) := by
    have hd : ((2 : Int) ^ k) ∣ 2 ^ 64 := ⟨2 ^ (64 - k), by rw [← Int.pow_add, show k + (64 - k) = 64 by omega]⟩
    have hc : (((a % 2 ^ 64).toNat % 2 ^ k : Nat) : Int) = a % 2 ^ k := by
      rw [Int.natCast_emod, Int.toNat_of_nonneg (Int.emod_nonneg _ (by decide)), show ((2 ^ k : Nat) : Int) = (2 : Int) ^ k by simp, Int.emod_emod_of_dvd _ hd]
    omega
  rw [show (((2 ^ 64 : Nat)) : Int) = (2 : Int) ^ 64 by decide, e1]
  have b0 := Int.emod_nonneg a (show (2 : Int) ^ k ≠ 0 by have := two_pos k; omega)
  have b1 := Int.emod_lt_of_pos a (two_pos k)
  have c : ((2 ^ k : Nat) : Int) = (2 : Int) ^ k := by simp
  rw [Int.toNat_of_nonneg b0, IntKind.wrap_i64]
  generalize a % 2 ^ k = r at *
  generalize (2 : Int) ^ k = q at *
  omega
theorem w7 (u : Nat) (hu : u < 18446744073709551616) : bits BinOp.and IntKind.i64 (wrap64 ((o6 u : Nat) : Int)) 127 = ((pc u : Nat) : Int) := by
  have h := and_i64_low (wrap64 ((o6 u : Nat) : Int)) 7 (by decide)
  rw [show (((2 ^ 7 - 1 : Nat)) : Int) = 127 by decide] at h
  rw [h]
  have := (o6_is u hu).1
  unfold wrap64
  omega
/-- Places to turn by, as package math/bits reckons them. -/
theorem places (k : Int) : bits BinOp.and IntKind.u64 (IntKind.u64.wrap k) 63 = (((k % 64).toNat : Nat) : Int) := by
  rw [and_nat ((k % 18446744073709551616).toNat) 63 _ _ (by rw [IntKind.wrap_u64]; omega) (by omega) (by omega) (by decide)]
  have := Nat.and_two_pow_sub_one_eq_mod (k % 18446744073709551616).toNat 6
  rw [show (2 : Nat) ^ 6 - 1 = 63 from rfl] at this
  rw [this]
  omega
theorem or_disjoint (a b s : Nat) (h : b < 2 ^ s) : a * 2 ^ s ||| b = a * 2 ^ s + b := by
  rw [← Nat.shiftLeft_eq]; exact (Nat.shiftLeft_add_eq_or_of_lt h a).symm

theorem mask_walk (k : Nat) (h : k ≤ 63) : IntKind.u64.wrap (IntKind.u64.wrap (2 ^ k) - 1) = ((2 ^ k - 1 : Nat) : Int) := by
  have p : 0 < 2 ^ k := Nat.two_pow_pos _
  have q : 2 ^ k ≤ 2 ^ 63 := Nat.pow_le_pow_right (by decide) h
  have e : ((2 : Int) ^ k) = ((2 ^ k : Nat) : Int) := by simp
  rw [e, IntKind.wrap_u64, IntKind.wrap_u64]
  generalize 2 ^ k = x at *
  omega

/-! ### The lowest bit -/
end Go.Proofs.YtdmkkfpbgpijjaaGreat
namespace Go.Proofs.YtdmkkfpbgpijjaaGreat
open Go.RowKit

set_option maxRecDepth 100000 in
set_option maxHeartbeats 400000 in
theorem zig_any (n : Int) (h1 : -9223372036854775808 ≤ n) (h2 : n < 9223372036854775808) (w : World) :
    Calls Tryz.prog 114 #[.int .i64 n] w fun e w' => e = .returned (.int .u64 (zigI n)) ∧ w = w' := by
  have hz := zig_walk n h1 h2
  go_enter Tryz.func114, Tryz.ntmps114
  go_wp2
  go_ret
  exact ⟨rfl, rfl⟩

set_option maxRecDepth 100000 in
set_option maxHeartbeats 400000 in
theorem zag_any (n : Nat) (hn : n < 18446744073709551616) (w : World) :
    Calls Tryz.prog 121 #[.int .u64 n] w fun e w' => e = .returned (.int .i64 (zagI n)) ∧ w = w' := by
  have hz := zag_walk n hn
  go_enter Tryz.func121, Tryz.ntmps121
  go_wp2
  go_ret
  exact ⟨rfl, rfl⟩

set_option maxRecDepth 100000 in
set_option maxHeartbeats 400000 in
theorem mask_any (k : Int) (h : 1 ≤ k) (h2 : k ≤ 63) (w : World) :
    Calls Tryz.prog 113 #[.int .i64 k] w fun e w' => e = .returned (.int .u64 ((2 ^ k.toNat - 1 : Nat) : Int)) ∧ w = w' := by
  go_enter Tryz.func113, Tryz.ntmps113
  go_wp2
  go_ret
  rw [mask_walk k.toNat (by omega)]
  exact ⟨rfl, rfl⟩

end Go.Proofs.YtdmkkfpbgpijjaaGreat
namespace Go.Proofs.YtdmkkfpbgpijjaaGreat
open Go.RowKit

/-- Right widths. -/
def sumI : List Int → Int
  | [] => 0
  | x :: xs => x + sumI xs
theorem sumI_append (a b : List Int) : sumI (a ++ b) = sumI a + sumI b := by
  induction a with
  | nil => simp [sumI]
  | cons x a ih => simp [sumI, ih]; omega
def okW (ws : List Int) : Bool := ws.all (fun x => decide (1 ≤ x) && decide (x ≤ 63)) && decide (sumI ws ≤ 64)
theorem sumI_pos (ws : List Int) (h : ∀ x ∈ ws, 1 ≤ x ∧ x ≤ 63) : 0 ≤ sumI ws := by
  induction ws with
  | nil => simp [sumI]
  | cons x a ih => have := ih (fun y hy => h y (by simp [hy])); have := h x (by simp); simp [sumI]; omega
theorem okW_iff (ws : List Int) : okW ws = true ↔ (∀ x ∈ ws, 1 ≤ x ∧ x ≤ 63) ∧ sumI ws ≤ 64 := by
  simp [okW]
theorem okW_bad (ws : List Int) (x : Int) (hx : x ∈ ws) (h : x < 1 ∨ 63 < x) : okW ws = false := by
  rw [Bool.eq_false_iff]; intro e
  have := ((okW_iff ws).1 e).1 x hx
  omega
theorem okW_over (ws : List Int) (k : Nat) (h : 64 < sumI (ws.take k)) : okW ws = false := by
  rw [Bool.eq_false_iff]; intro e
  obtain ⟨h1, h2⟩ := (okW_iff ws).1 e
  have e2 := sumI_append (ws.take k) (ws.drop k)
  rw [List.take_append_drop] at e2
  have := sumI_pos (ws.drop k) (fun x hx => h1 x (List.mem_of_mem_drop hx))
  omega
theorem sum_take (ws : List Int) (k : Nat) (h : k < ws.length) : sumI (ws.take (k + 1)) = sumI (ws.take k) + ws[k]?.getD 0 := by
  rw [List.take_succ_eq_append_getElem h, sumI_append]
  simp [sumI, h]

def RW (ws : List Int) (k : Nat) : Prop := (∀ x ∈ ws.take k, 1 ≤ x ∧ x ≤ 63) ∧ 0 ≤ sumI (ws.take k) ∧ sumI (ws.take k) ≤ 64

theorem rw_step (ws : List Int) (k : Nat) (x : Int) (hlt : k < ws.length) (hx : ws[k]?.getD 0 = x) (h : RW ws k) (h1 : 1 ≤ x ∧ x ≤ 63) (h2 : 0 ≤ sumI (ws.take (k + 1))) (h3 : sumI (ws.take (k + 1)) ≤ 64) : RW ws (k + 1) := by
  refine ⟨?_, h2, h3⟩
  rw [List.take_succ_eq_append_getElem hlt]
  intro y hy
  rcases List.mem_append.1 hy with hy | hy
  · exact h.1 y hy
  · simp [hlt] at hx hy; subst hy; subst hx; exact h1
theorem rw_end (ws : List Int) (h : RW ws ws.length) : okW ws = true := by
  have h1 := h.1; have h3 := h.2.2
  rw [List.take_length] at h1 h3
  exact (okW_iff ws).2 ⟨h1, h3⟩

set_option maxRecDepth 100000 in
set_option maxHeartbeats 400000 in
theorem rightWidths_any (A : Option Addr) (ws : List Int) (c B : Nat) (w : World) (h : Ints .i64 B w A ws) (hl : ws.length ≤ 17592186044416) :
    Calls Tryz.prog 111 #[.slice A ws.length c] w fun e w' => e = .returned (.bool (okW ws)) ∧ w = w' := by
  go_enter Tryz.func111, Tryz.ntmps111
  go_wp2
  go_loop [3, 8] (fun s i => ∃ k : Nat, k ≤ ws.length ∧ i = .int .i64 k ∧ s = .int .i64 (sumI (ws.take k)) ∧ RW ws k) (fun _ i => ws.length - (intOf i).toNat)
  case atStart => exact ⟨0, Nat.zero_le _, rfl, rfl, by simp, by simp [sumI], by simp [sumI]⟩
  case round =>
    obtain ⟨k, hk, rfl, rfl, hr⟩ := hrel
    by_cases hlt : k < ws.length
    · obtain ⟨b, off, rfl, hb, hc⟩ := h (by omega)
      have hck := hc k hlt
      have hs1 := hr.2.1
      have hs2 := hr.2.2
      have hst := Lib.hid (sum_take ws k hlt)
      have hm : ws[k]?.getD 0 ∈ ws := by simp [hlt]
      clear hc
      generalize sumI (ws.take k) = s at *
      have hmm := Lib.hid hm
      clear hm
      generalize hx : ws[k]?.getD 0 = x at *
      have hx := Lib.hid hx
      go_wp2
      · go_ret
        exact ⟨by rw [okW_bad ws x hmm.out (by omega)]; rfl, rfl⟩
      · go_ret
        exact ⟨by rw [okW_over ws (k + 1) (by rw [hst.out]; omega)]; rfl, rfl⟩
      · go_round
        case rel => exact ⟨k + 1, by omega, by go_num, by rw [hst.out], rw_step ws k x hlt hx.out hr (by omega) (by rw [hst.out]; omega) (by rw [hst.out]; omega)⟩
        case measure => simp [intOf]; omega
      · go_ret
        exact ⟨by rw [okW_bad ws x hmm.out (by omega)]; rfl, rfl⟩
    · obtain rfl : k = ws.length := by omega
      go_wp2
      go_ret
      exact ⟨by rw [rw_end ws hr]; rfl, rfl⟩

end Go.Proofs.YtdmkkfpbgpijjaaGreat
namespace Go.Proofs.YtdmkkfpbgpijjaaGreat
open Go.RowKit Go.Deep

set_option maxRecDepth 100000 in
theorem info_int : (Tryz.prog.info? 3).map (fun i => (i.zero, i.size, i.bytes)) = some (some (.int .i64 0), 1, 8) := by kernel_rfl

def byteAt (u j : Nat) : Nat := u / 2 ^ (8 * j) % 256

theorem shr_eq (u m : Nat) (h : u / 2 ^ (8 * m) = 0) : ((u : Int) / 2 ^ (8 * m) != 0) = false := by
  have e : ((u : Int) / 2 ^ (8 * m)) = ((u / 2 ^ (8 * m) : Nat) : Int) := by simp
  rw [e, h]; rfl
theorem byte_walk (u k : Nat) : IntKind.u8.wrap ((u : Int) / 2 ^ (8 * k)) = ((byteAt u k : Nat) : Int) := by
  have e : ((u : Int) / 2 ^ (8 * k)) = ((u / 2 ^ (8 * k) : Nat) : Int) := by simp
  rw [e]; unfold byteAt
  simp [IntKind.wrap, IntKind.signed, IntKind.bits]

set_option maxRecDepth 100000 in
set_option maxHeartbeats 400000 in
theorem bytes_yes (u : Nat) (_hu : u < 18446744073709551616) (n : Nat) (h : n ≤ 8) (hz : u / 2 ^ (8 * n) = 0) (w : World) :
    Calls Tryz.prog 86 #[.int .u64 u, .int .i64 n] w fun e w' => e = .returned (.slice (some ⟨w.heap.size, 0, none⟩) n n) ∧ w'.rowIs w.heap.size 5 n (fun j => .int .u8 (byteAt u j)) ∧ Below w.heap.size w w' := by
  have hmk := fun W => run_make_row' (P := Tryz.prog) 39 5 (.int .u8 0) 1 Tryz.underlying39 info_u8 rfl .i64 .i64 n (by omega) (by omega) W
  have hb := shr_eq u n hz
  clear hz
  have hw := byte_walk u
  go_enter Tryz.func86, Tryz.ntmps86
  go_wp2
  go_loopw [24, 6] (fun i _ wr => ∃ k : Nat, k ≤ n ∧ i = .int .i64 k ∧ wr.rowIs w.heap.size 5 n (fun j => if j < k then .int .u8 (byteAt u j) else .int .u8 0) ∧ Below w.heap.size w wr) (fun i _ _ => n - (intOf i).toNat)
  case atStart => exact ⟨0, Nat.zero_le _, rfl, (World.rowIs_made w (.int .u8 0) n 5).congr (fun i _ => by simp), (Below.refl _ _).alloc (Nat.le_refl _) _⟩
  case round =>
    obtain ⟨k, hk, rfl, hrow, hbl⟩ := hrel
    by_cases hlt : k < n
    · have hc := hrow.cell hlt
      have hf := hrow.frozen k
      rw [if_neg (Nat.lt_irrefl k)] at hc
      go_wp2
      go_roundw
      case rel => exact ⟨k + 1, by omega, by go_num, (hrow.set k _).congr (fun i _ => by by_cases e : i = k <;> by_cases e2 : i < k <;> simp [e, e2] <;> omega), hbl.setCell (p := ⟨w.heap.size, k, none⟩) (Nat.le_refl _) _⟩
      case measure => simp [intOf]; omega
    · obtain rfl : k = n := by omega
      go_wp2
      go_ret
      exact ⟨rfl, hrow.congr (fun i hi => by simp [hi]), hbl⟩

/-! ### Unpack -/
/-- How many bits lie below number k. -/
def offN (ws : List Int) (k : Nat) : Nat := (sumI (ws.take k)).toNat
def fieldAt (ws : List Int) (u k : Nat) : Nat := u / 2 ^ offN ws k % 2 ^ (ws[k]?.getD 0).toNat
theorem fieldAt_eq (ws : List Int) (u k : Nat) : fieldAt ws u k = u / 2 ^ offN ws k % 2 ^ (ws[k]?.getD 0).toNat := rfl
def unpackL (ws : List Int) (u : Nat) : List Int := (List.range ws.length).map (fun k => (fieldAt ws u k : Int))

theorem okW_at (ws : List Int) (h : okW ws = true) (k : Nat) (hk : k < ws.length) : 1 ≤ ws[k]?.getD 0 ∧ ws[k]?.getD 0 ≤ 63 := by
  have := ((okW_iff ws).1 h).1 (ws[k]) (by simp)
  simp [hk]; omega
theorem take_nonneg (ws : List Int) (h : okW ws = true) (k : Nat) : 0 ≤ sumI (ws.take k) :=
  sumI_pos _ (fun x hx => ((okW_iff ws).1 h).1 x (List.mem_of_mem_take hx))
theorem offN_succ (ws : List Int) (h : okW ws = true) (k : Nat) (hk : k < ws.length) : offN ws (k + 1) = offN ws k + (ws[k]?.getD 0).toNat := by
  unfold offN
  rw [sum_take ws k hk]
  have := take_nonneg ws h k
  have := okW_at ws h k hk
  omega
theorem rest_succ (ws : List Int) (u : Nat) (h : okW ws = true) (k : Nat) (hk : k < ws.length) : u / 2 ^ offN ws k / 2 ^ (ws[k]?.getD 0).toNat = u / 2 ^ offN ws (k + 1) := by
  rw [offN_succ ws h k hk, Nat.pow_add, Nat.div_div_eq_div_mul]
theorem and_mask (r k : Nat) (hr : r < 18446744073709551616) (hk : k ≤ 63) : bits .and .u64 (r : Int) ((2 ^ k - 1 : Nat) : Int) = ((r % 2 ^ k : Nat) : Int) := by
  have : 2 ^ k ≤ 2 ^ 63 := Nat.pow_le_pow_right (by decide) hk
  have p : 0 < 2 ^ k := Nat.two_pow_pos k
  rw [bits_and_u64_nat _ _ hr (by omega), Nat.and_two_pow_sub_one_eq_mod]
theorem mod63 (r k : Nat) (hk : k ≤ 63) : r % 2 ^ k < 9223372036854775808 := by
  have : 2 ^ k ≤ 2 ^ 63 := Nat.pow_le_pow_right (by decide) hk
  have := Nat.mod_lt r (Nat.two_pow_pos k)
  omega

def UnpackOk (ws : List Int) (u : Nat) (w : World) (e : Ending) (w' : World) : Prop :=
  e = .returned (.tuple #[.slice (some ⟨w.heap.size, 0, none⟩) ws.length ws.length, .bool true]) ∧ w'.rowIs w.heap.size 3 ws.length (fun j => .int .i64 (fieldAt ws u j)) ∧ Below w.heap.size w w'
def UnpackNo (w : World) (e : Ending) (w' : World) : Prop :=
  e = .returned (.tuple #[.slice none 0 0, .bool false]) ∧ Below w.heap.size w w'

set_option maxRecDepth 100000 in
set_option maxHeartbeats 400000 in
theorem unpack_good (A : Option Addr) (ws : List Int) (c u : Nat) (hu : u < 18446744073709551616) (w : World) (h : Ints .i64 w.heap.size w A ws) (hl : ws.length ≤ 64) (ho : okW ws = true) :
    Calls Tryz.prog 117 #[.slice A ws.length c, .int .u64 u] w fun e w' => (u / 2 ^ offN ws ws.length = 0 ∧ UnpackOk ws u w e w') ∨ (u / 2 ^ offN ws ws.length ≠ 0 ∧ UnpackNo w e w') := by
  have H := rightWidths_any A ws c w.heap.size w h (by omega)
  rw [ho] at H
  have HO := Lib.hid ho
  clear ho
  have hmk := fun W => run_make_row' (P := Tryz.prog) 126 3 (.int .i64 0) 8 Tryz.underlying126 info_int rfl .i64 .i64 ws.length (by omega) (by omega) W
  go_enter Tryz.func117, Tryz.ntmps117
  go_wp2_with (go_at_call 111; refine H.mono ?_; clear H; rintro e w' ⟨rfl, rfl⟩)
  go_loopw [1, 7, 8, 17] (fun r _ _ i wr => ∃ k : Nat, k ≤ ws.length ∧ i = .int .i64 k ∧ r = .int .u64 ((u / 2 ^ offN ws k : Nat) : Int) ∧ wr.rowIs w.heap.size 3 ws.length (fun j => if j < k then .int .i64 (fieldAt ws u j) else .int .i64 0) ∧ Below w.heap.size w wr) (fun _ _ _ i _ => ws.length - (intOf i).toNat)
  case atStart => exact ⟨0, Nat.zero_le _, rfl, by simp [offN, sumI], (World.rowIs_made w (.int .i64 0) ws.length 3).congr (fun i _ => by simp), (Below.refl _ _).alloc (Nat.le_refl _) _⟩
  case round =>
    obtain ⟨k, hk, rfl, rfl, hrow, hbl⟩ := hrel
    by_cases hlt : k < ws.length
    · obtain ⟨b, off, rfl, hb, hc⟩ := h (by omega)
      have hck : wr.cell? ⟨b, off + k, none⟩ = some (.int .i64 (ws[k]?.getD 0)) := (hbl.cell (p := ⟨b, off + k, none⟩) hb).trans (hc k hlt)
      have hc0 := hrow.cell hlt
      have hf := hrow.frozen k
      rw [if_neg (Nat.lt_irrefl k)] at hc0
      have hr1 := Lib.hid (rest_succ ws u HO.out k hlt)
      have hfd := Lib.hid (fieldAt_eq ws u k)
      obtain ⟨hx1, hx2⟩ := okW_at ws HO.out k hlt
      have hrl : u / 2 ^ offN ws k < 18446744073709551616 := Nat.lt_of_le_of_lt (Nat.div_le_self _ _) hu
      clear hc
      generalize ws[k]?.getD 0 = x at *
      generalize u / 2 ^ offN ws k = r at *
      have ha := and_mask r x.toNat hrl (by omega)
      have hm := mod63 r x.toNat (by omega)
      have hd : (r : Int) / 2 ^ x.toNat = ((r / 2 ^ x.toNat : Nat) : Int) := by simp
      generalize hf0 : r % 2 ^ x.toNat = f at *
      generalize hq : r / 2 ^ x.toNat = q at *
      have HF := Lib.hid hf0
      have HQ := Lib.hid hq
      clear hf0 hq
      go_wp2_with (go_at_call 113; refine (mask_any _ hx1 hx2 _).mono ?_; rintro e w' ⟨rfl, rfl⟩)
      go_roundw
      case rel => exact ⟨k + 1, by omega, by go_num, by rw [← hr1.out], (hrow.set k _).congr (fun i _ => by by_cases e : i = k <;> by_cases e2 : i < k <;> simp [e, e2, hfd.out] <;> omega), hbl.setCell (p := ⟨w.heap.size, k, none⟩) (Nat.le_refl _) _⟩
      case measure => simp [intOf]; omega
    · obtain rfl : k = ws.length := by omega
      by_cases hz : u / 2 ^ offN ws ws.length = 0
      · have hz2 : (((u / 2 ^ offN ws ws.length : Nat) : Int) != 0) = false := by rw [hz]; rfl
        have HZ := Lib.hid hz
        clear hz
        generalize hzz : u / 2 ^ offN ws ws.length = z at *
        have HZZ := Lib.hid hzz
        clear hzz
        go_wp2
        go_ret2
        exact .inl ⟨HZZ.out.trans HZ.out, rfl, hrow.congr (fun i hi => by simp [hi]), hbl⟩
      · have hz2 : (((u / 2 ^ offN ws ws.length : Nat) : Int) != 0) = true := by simp only [bne_iff_ne]; omega
        have HZ := Lib.hid hz
        clear hz
        generalize hzz : u / 2 ^ offN ws ws.length = z at *
        have HZZ := Lib.hid hzz
        clear hzz
        go_wp2
        go_ret2
        exact .inr ⟨by rw [HZZ.out]; exact HZ.out, rfl, hbl⟩
end Go.Proofs.YtdmkkfpbgpijjaaGreat
