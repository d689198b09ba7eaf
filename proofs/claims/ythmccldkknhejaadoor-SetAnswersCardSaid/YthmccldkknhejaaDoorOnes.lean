/- Plain arithmetic: adding the bits of a word by parts (as package math/bits does) counts them; the lowest bit. Nothing of the program. -/
import Derived.Test.YthmccldkknhejaaDoorMath
namespace Go.Proofs.YthmccldkknhejaaDoor
open Go.RowKit

theorem and_split (a b c d : Nat) (ha : a < 256) (hc : c < 256) : (a + 256 * b) &&& (c + 256 * d) = (a &&& c) + 256 * (b &&& d) := by
  have h1 := Nat.and_div_two_pow (a := a + 256 * b) (b := c + 256 * d) (n := 8)
  have h2 := Nat.and_mod_two_pow (a := a + 256 * b) (b := c + 256 * d) (n := 8)
  rw [show (2 : Nat) ^ 8 = 256 from rfl] at h1 h2
  rw [show (a + 256 * b) / 256 = b by omega, show (c + 256 * d) / 256 = d by omega] at h1
  rw [show (a + 256 * b) % 256 = a by omega, show (c + 256 * d) % 256 = c by omega] at h2
  have h3 := Nat.mod_add_div ((a + 256 * b) &&& (c + 256 * d)) 256
  rw [h1, h2] at h3
  exact h3.symm

/-- k bytes, each the same. -/
def rep (m : Nat) : Nat → Nat
  | 0 => 0
  | k + 1 => m + 256 * rep m k

theorem rep_succ (m k : Nat) : rep m (k + 1) = m + 256 * rep m k := rfl

def o1 (k u : Nat) : Nat := (u / 2 &&& rep 0x55 k) + (u &&& rep 0x55 k)
def o2 (k u : Nat) : Nat := (o1 k u / 4 &&& rep 0x33 k) + (o1 k u &&& rep 0x33 k)
def o3 (k u : Nat) : Nat := (o2 k u / 16 + o2 k u) &&& rep 0x0f k
def b1 (c : Nat) : Nat := (c / 2 &&& 0x55) + (c &&& 0x55)
def b2 (c : Nat) : Nat := (b1 c / 4 &&& 0x33) + (b1 c &&& 0x33)

theorem b1_up : ∀ t, t < 2 → ∀ c, c < 256 → (c / 2 + 128 * t) &&& 0x55 = c / 2 &&& 0x55 := by decide +kernel
theorem b1_lt : ∀ c, c < 256 → b1 c < 256 := by decide +kernel
theorem b2_up : ∀ t, t < 4 → ∀ c, c < 256 → (c / 4 + 64 * t) &&& 0x33 = c / 4 &&& 0x33 := by decide +kernel
theorem b2_lt : ∀ c, c < 256 → b2 c ≤ 68 ∧ b2 c % 16 ≤ 4 := by decide +kernel
theorem b3_up : ∀ t, t < 5 → ∀ c, c < 69 → (c / 16 + c + 16 * t) &&& 0x0f = (c / 16 + c) &&& 0x0f := by decide +kernel
/-- The sum of a byte's bits. -/
def c8 (c : Nat) : Nat := c % 2 + c / 2 % 2 + c / 4 % 2 + c / 8 % 2 + c / 16 % 2 + c / 32 % 2 + c / 64 % 2 + c / 128 % 2
theorem b3_is : ∀ c, c < 256 → (b2 c / 16 + b2 c) &&& 0x0f = c8 c := by decide +kernel
theorem c8_pc (c : Nat) (h : c < 256) : c8 c = pc c := by
  unfold c8
  rw [pc_step c, pc_step (c / 2), pc_step (c / 2 / 2), pc_step (c / 2 / 2 / 2), pc_step (c / 2 / 2 / 2 / 2), pc_step (c / 2 / 2 / 2 / 2 / 2), pc_step (c / 2 / 2 / 2 / 2 / 2 / 2), pc_step (c / 2 / 2 / 2 / 2 / 2 / 2 / 2)]
  rw [show c / 2 / 2 / 2 / 2 / 2 / 2 / 2 / 2 = 0 by omega, pc_zero]
  omega

theorem o1_step (k c v : Nat) (hc : c < 256) : o1 (k + 1) (c + 256 * v) = b1 c + 256 * o1 k v := by
  unfold o1 b1
  rw [rep_succ]
  have e : (c + 256 * v) / 2 = (c / 2 + 128 * (v % 2)) + 256 * (v / 2) := by omega
  rw [e, and_split _ _ _ _ (by omega) (by decide), and_split _ _ _ _ hc (by decide), b1_up _ (by omega) c hc]
  omega
theorem o2_step (k c v : Nat) (hc : c < 256) : o2 (k + 1) (c + 256 * v) = b2 c + 256 * o2 k v := by
  unfold o2
  rw [o1_step k c v hc]
  unfold b2
  rw [rep_succ]
  have hb := b1_lt c hc
  generalize b1 c = d at *
  generalize o1 k v = w at *
  have e : (d + 256 * w) / 4 = (d / 4 + 64 * (w % 4)) + 256 * (w / 4) := by omega
  rw [e, and_split _ _ _ _ (by omega) (by decide), and_split _ _ _ _ hb (by decide), b2_up _ (by omega) d hb]
  omega
theorem o2_low (k v : Nat) : v < 256 ^ k → o2 k v % 16 ≤ 4 := by
  cases k with
  | zero => intro h; have : v = 0 := by simpa using h
            subst this; decide
  | succ k =>
    intro _
    have e := o2_step k (v % 256) (v / 256) (by omega)
    rw [show v % 256 + 256 * (v / 256) = v by omega] at e
    have := (b2_lt (v % 256) (by omega)).2
    rw [e]; omega
theorem o3_step (k c v : Nat) (hc : c < 256) (hv : v < 256 ^ k) : o3 (k + 1) (c + 256 * v) = pc c + 256 * o3 k v := by
  unfold o3
  rw [o2_step k c v hc, ← c8_pc c hc, ← b3_is c hc]
  have hl := o2_low k v hv
  have hb := (b2_lt c hc).1
  rw [rep_succ]
  generalize b2 c = d at *
  generalize o2 k v = w at *
  have e : (d + 256 * w) / 16 + (d + 256 * w) = (d / 16 + d + 16 * (w % 16)) + 256 * (w / 16 + w) := by omega
  rw [e, and_split _ _ _ _ (by omega) (by decide), b3_up _ (by omega) d (by omega)]

/-- All eight bytes. -/
theorem o3_all (u : Nat) (h : u < 18446744073709551616) : ∃ g0 g1 g2 g3 g4 g5 g6 g7 : Nat, g0 ≤ 8 ∧ g1 ≤ 8 ∧ g2 ≤ 8 ∧ g3 ≤ 8 ∧ g4 ≤ 8 ∧ g5 ≤ 8 ∧ g6 ≤ 8 ∧ g7 ≤ 8 ∧
    pc u = g0 + g1 + g2 + g3 + g4 + g5 + g6 + g7 ∧
    o3 8 u = g0 + 256 * (g1 + 256 * (g2 + 256 * (g3 + 256 * (g4 + 256 * (g5 + 256 * (g6 + 256 * g7)))))) := by
  have s : ∀ k v, v < 256 ^ (k + 1) → o3 (k + 1) v = pc (v % 256) + 256 * o3 k (v / 256) ∧ pc v = pc (v % 256) + pc (v / 256) := by
    intro k v hv
    rw [Nat.pow_succ] at hv
    have e := o3_step k (v % 256) (v / 256) (by omega) (by omega)
    rw [show v % 256 + 256 * (v / 256) = v by omega] at e
    have p := pc_parts 8 (v / 256) (v % 256) (by omega)
    rw [show v / 256 * 2 ^ 8 + v % 256 = v by omega] at p
    exact ⟨e, by omega⟩
  have z : ∀ v, v < 1 → o3 0 v = 0 ∧ pc v = 0 := by
    intro v hv
    have : v = 0 := by omega
    subst this
    exact ⟨by decide, pc_zero⟩
  have l : ∀ v, pc (v % 256) ≤ 8 := fun v => pc_le 8 _ (by omega)
  have s7 := s 7 u (by omega)
  have s6 := s 6 (u / 256) (by omega)
  have s5 := s 5 (u / 256 / 256) (by omega)
  have s4 := s 4 (u / 256 / 256 / 256) (by omega)
  have s3 := s 3 (u / 256 / 256 / 256 / 256) (by omega)
  have s2 := s 2 (u / 256 / 256 / 256 / 256 / 256) (by omega)
  have s1 := s 1 (u / 256 / 256 / 256 / 256 / 256 / 256) (by omega)
  have s0 := s 0 (u / 256 / 256 / 256 / 256 / 256 / 256 / 256) (by omega)
  have zz := z (u / 256 / 256 / 256 / 256 / 256 / 256 / 256 / 256) (by omega)
  refine ⟨_, _, _, _, _, _, _, _, l u, l (u / 256), l (u / 256 / 256), l (u / 256 / 256 / 256), l (u / 256 / 256 / 256 / 256), l (u / 256 / 256 / 256 / 256 / 256), l (u / 256 / 256 / 256 / 256 / 256 / 256), l (u / 256 / 256 / 256 / 256 / 256 / 256 / 256), ?_, ?_⟩
  · rw [s7.2, s6.2, s5.2, s4.2, s3.2, s2.2, s1.2, s0.2, zz.2]; omega
  · rw [s7.1, s6.1, s5.1, s4.1, s3.1, s2.1, s1.1, s0.1, zz.1, Nat.mul_zero, Nat.add_zero]

def o4 (u : Nat) : Nat := (o3 8 u + o3 8 u / 256) % 18446744073709551616
def o5 (u : Nat) : Nat := (o4 u + o4 u / 65536) % 18446744073709551616
def o6 (u : Nat) : Nat := (o5 u + o5 u / 4294967296) % 18446744073709551616
set_option maxHeartbeats 1600000 in
theorem o6_is (u : Nat) (h : u < 18446744073709551616) : o6 u % 128 = pc u ∧ pc u ≤ 64 := by
  obtain ⟨g0, g1, g2, g3, g4, g5, g6, g7, h0, h1, h2, h3, h4, h5, h6, h7, hp, ho⟩ := o3_all u h
  have q3 : o3 8 u / 256 = g1 + 256 * (g2 + 256 * (g3 + 256 * (g4 + 256 * (g5 + 256 * (g6 + 256 * g7))))) := by omega
  have e4 : o4 u = (g0 + g1) + 256 * (g1 + g2) + 65536 * ((g2 + g3) + 256 * (g3 + g4) + 65536 * ((g4 + g5) + 256 * (g5 + g6) + 65536 * ((g6 + g7) + 256 * g7))) := by
    unfold o4; rw [q3, ho, Nat.mod_eq_of_lt (by omega)]; omega
  clear q3 ho
  have q4 : o4 u / 65536 = (g2 + g3) + 256 * (g3 + g4) + 65536 * ((g4 + g5) + 256 * (g5 + g6) + 65536 * ((g6 + g7) + 256 * g7)) := by omega
  have e5 : o5 u = (g0 + g1 + g2 + g3) + 256 * (g1 + g2 + g3 + g4) + 65536 * ((g2 + g3 + g4 + g5) + 256 * (g3 + g4 + g5 + g6)) + 4294967296 * ((g4 + g5 + g6 + g7) + 256 * (g5 + g6 + g7) + 65536 * (g6 + g7) + 16777216 * g7) := by
    unfold o5; rw [q4, e4, Nat.mod_eq_of_lt (by omega)]; omega
  clear q4 e4
  have q5 : o5 u / 4294967296 = (g4 + g5 + g6 + g7) + 256 * (g5 + g6 + g7) + 65536 * (g6 + g7) + 16777216 * g7 := by omega
  have e6 : ∃ r, o6 u = (g0 + g1 + g2 + g3 + g4 + g5 + g6 + g7) + 128 * r := by
    refine ⟨2 * (g1 + g2 + g3 + g4 + g5 + g6 + g7) + 512 * ((g2 + g3 + g4 + g5 + g6 + g7) + 256 * (g3 + g4 + g5 + g6 + g7)) + 33554432 * ((g4 + g5 + g6 + g7) + 256 * (g5 + g6 + g7) + 65536 * (g6 + g7) + 16777216 * g7), ?_⟩
    unfold o6; rw [q5, e5, Nat.mod_eq_of_lt (by omega)]; omega
  obtain ⟨r, e6⟩ := e6
  rw [e6, hp]
  omega

theorem rep55 : rep 0x55 8 = 6148914691236517205 := by decide
theorem rep33 : rep 0x33 8 = 3689348814741910323 := by decide
theorem rep0f : rep 0x0f 8 = 1085102592571150095 := by decide
theorem o_lt (u : Nat) : o1 8 u < 18446744073709551616 ∧ o2 8 u < 18446744073709551616 ∧ o2 8 u / 16 + o2 8 u < 18446744073709551616 := by
  have a1 : u / 2 &&& 6148914691236517205 ≤ 6148914691236517205 := Nat.and_le_right
  have a2 : u &&& 6148914691236517205 ≤ 6148914691236517205 := Nat.and_le_right
  have a3 : o1 8 u / 4 &&& 3689348814741910323 ≤ 3689348814741910323 := Nat.and_le_right
  have a4 : o1 8 u &&& 3689348814741910323 ≤ 3689348814741910323 := Nat.and_le_right
  have e1 : o1 8 u = (u / 2 &&& 6148914691236517205) + (u &&& 6148914691236517205) := by unfold o1; rw [rep55]
  have e2 : o2 8 u = (o1 8 u / 4 &&& 3689348814741910323) + (o1 8 u &&& 3689348814741910323) := by unfold o2; rw [rep33]
  omega

theorem and_nat (a : Nat) (m : Nat) (x : Int) (mi : Int) (hx : x = (a : Int)) (hm : mi = (m : Int)) (ha : a < 18446744073709551616) (hb : m < 18446744073709551616) : bits .and .u64 x mi = ((a &&& m : Nat) : Int) := by
  rw [hx, hm]; exact bits_and_u64_nat a m ha hb
theorem w1 (u : Nat) (hu : u < 18446744073709551616) : IntKind.u64.wrap (bits BinOp.and IntKind.u64 (↑u / 2) 6148914691236517205 + bits BinOp.and IntKind.u64 (↑u) 6148914691236517205) = ((o1 8 u : Nat) : Int) := by
  have l := (o_lt u).1
  have e : o1 8 u = (u / 2 &&& 6148914691236517205) + (u &&& 6148914691236517205) := by unfold o1; rw [rep55]
  rw [and_nat (u / 2) 6148914691236517205 _ _ (by omega) (by omega) (by omega) (by decide), and_nat u 6148914691236517205 _ _ rfl (by omega) hu (by decide), IntKind.wrap_u64]
  omega
theorem w2 (u : Nat) : IntKind.u64.wrap (bits BinOp.and IntKind.u64 (↑(o1 8 u) / 4) 3689348814741910323 + bits BinOp.and IntKind.u64 (↑(o1 8 u)) 3689348814741910323) = ((o2 8 u : Nat) : Int) := by
  obtain ⟨l1, l2, _⟩ := o_lt u
  have e : o2 8 u = (o1 8 u / 4 &&& 3689348814741910323) + (o1 8 u &&& 3689348814741910323) := by unfold o2; rw [rep33]
  rw [and_nat (o1 8 u / 4) 3689348814741910323 _ _ (by omega) (by omega) (by omega) (by decide), and_nat (o1 8 u) 3689348814741910323 _ _ rfl (by omega) l1 (by decide), IntKind.wrap_u64]
  omega
theorem w3 (u : Nat) : bits BinOp.and IntKind.u64 (IntKind.u64.wrap (↑(o2 8 u) / 16 + ↑(o2 8 u))) 1085102592571150095 = ((o3 8 u : Nat) : Int) := by
  obtain ⟨_, _, l3⟩ := o_lt u
  have e : o3 8 u = (o2 8 u / 16 + o2 8 u) &&& 1085102592571150095 := by unfold o3; rw [rep0f]
  rw [and_nat (o2 8 u / 16 + o2 8 u) 1085102592571150095 _ _ (by rw [IntKind.wrap_u64]; omega) (by omega) (by omega) (by decide), e]
theorem w4 (u : Nat) : IntKind.u64.wrap (((o3 8 u : Nat) : Int) + ↑(o3 8 u) / 256) = ((o4 u : Nat) : Int) := by
  unfold o4; rw [IntKind.wrap_u64]; omega
theorem w5 (u : Nat) : IntKind.u64.wrap (((o4 u : Nat) : Int) + ↑(o4 u) / 65536) = ((o5 u : Nat) : Int) := by
  unfold o5; rw [IntKind.wrap_u64]; omega
theorem w6 (u : Nat) : IntKind.u64.wrap (((o5 u : Nat) : Int) + ↑(o5 u) / 4294967296) = ((o6 u : Nat) : Int) := by
  unfold o6; rw [IntKind.wrap_u64]; omega
theorem and_i64_low (a : Int) (k : Nat) (hk : k ≤ 62) : bits .and .i64 a (((2 ^ k - 1 : Nat)) : Int) = a % 2 ^ k := by
  have hp : 0 < 2 ^ k := Nat.two_pow_pos k
  have h62 : 2 ^ k ≤ 2 ^ 62 := Nat.pow_le_pow_right (by decide) hk
  show IntKind.i64.wrap ((BitVec.ofInt 64 a &&& BitVec.ofInt 64 ((2 ^ k - 1 : Nat) : Int)).toNat : Int) = _
  have h2 : (BitVec.ofInt 64 ((2 ^ k - 1 : Nat) : Int)).toNat = 2 ^ k - 1 := by
    rw [BitVec.ofInt_natCast, BitVec.toNat_ofNat]; exact Nat.mod_eq_of_lt (by omega)
  rw [BitVec.toNat_and, h2, Nat.and_two_pow_sub_one_eq_mod, BitVec.toNat_ofInt]
  have e1 : ((a % 2 ^ 64).toNat % 2 ^ k : Nat) = (((a % 2 ^ k).toNat : Nat)) := by
    have hd : ((2 : Int) ^ k) ∣ 2 ^ 64 := ⟨2 ^ (64 - k), by rw [← Int.pow_add, show k + (64 - k) = 64 by omega]⟩
    have hc : (((a % 2 ^ 64).toNat % 2 ^ k : Nat) : Int) = a % 2 ^ k := by
      rw [Int.natCast_emod, Int.toNat_of_nonneg (Int.emod_nonneg _ (by decide)), show ((2 ^ k : Nat) : Int) = (2 : Int) ^ k by simp, Int.emod_emod_of_dvd _ hd]
    omega
  rw [show (((2 ^ 64 : Nat)) : Int) = (2 : Int) ^ 64 by decide, e1]
  have b0 := Int.emod_nonneg a (show (2 : Int) ^ k ≠ 0 by have := two_pos k; omega)
  have b1 := Int.emod_lt_of_pos a (two_pos k)
  have c : ((2 ^ k : Nat) : Int) = (2 : Int) ^ k := by simp
  rw [Int.toNat_of_nonneg b0, IntKind.wrap_i64]
  generalize a % 2 ^ k = r at *
  generalize (2 : Int) ^ k = q at *
  omega
theorem w7 (u : Nat) (hu : u < 18446744073709551616) : bits BinOp.and IntKind.i64 (wrap64 ((o6 u : Nat) : Int)) 127 = ((pc u : Nat) : Int) := by
  have h := and_i64_low (wrap64 ((o6 u : Nat) : Int)) 7 (by decide)
  rw [show (((2 ^ 7 - 1 : Nat)) : Int) = 127 by decide] at h
  rw [h]
  have := (o6_is u hu).1
  unfold wrap64
  omega
/-- Places to turn by, as package math/bits reckons them. -/
theorem places (k : Int) : bits BinOp.and IntKind.u64 (IntKind.u64.wrap k) 63 = (((k % 64).toNat : Nat) : Int) := by
  rw [and_nat ((k % 18446744073709551616).toNat) 63 _ _ (by rw [IntKind.wrap_u64]; omega) (by omega) (by omega) (by decide)]
  have := Nat.and_two_pow_sub_one_eq_mod (k % 18446744073709551616).toNat 6
  rw [show (2 : Nat) ^ 6 - 1 = 63 from rfl] at this
  rw [this]
  omega
theorem or_disjoint (a b s : Nat) (h : b < 2 ^ s) : a * 2 ^ s ||| b = a * 2 ^ s + b := by
  rw [← Nat.shiftLeft_eq]; exact (Nat.shiftLeft_add_eq_or_of_lt h a).symm

theorem rot_walk (u s : Nat) (hu : u < 18446744073709551616) (hs : s < 64) : bits BinOp.or IntKind.u64 (IntKind.u64.wrap (↑u * 2 ^ s)) (↑u / 2 ^ (64 - s)) = ((rotK u s : Nat) : Int) := by
  have e := pow_split s (by omega)
  have p : 0 < 2 ^ (64 - s) := Nat.two_pow_pos _
  have ea : IntKind.u64.wrap ((u : Int) * 2 ^ s) = ((u % 2 ^ (64 - s) * 2 ^ s : Nat) : Int) := by
    rw [IntKind.wrap_u64, show (18446744073709551616 : Int) = ((2 ^ (64 - s) * 2 ^ s : Nat) : Int) by rw [Nat.mul_comm, e]; rfl, show ((u : Int) * 2 ^ s) = ((u * 2 ^ s : Nat) : Int) by simp, ← Int.natCast_emod, Nat.mul_mod_mul_right]
  have eb : ((u : Int) / 2 ^ (64 - s)) = ((u / 2 ^ (64 - s) : Nat) : Int) := by simp
  have hb : u / 2 ^ (64 - s) < 2 ^ s := by rw [Nat.div_lt_iff_lt_mul p, e]; exact hu
  have ha : u % 2 ^ (64 - s) * 2 ^ s < 18446744073709551616 := by
    rw [← e, Nat.mul_comm]; exact Nat.mul_lt_mul_of_pos_left (Nat.mod_lt _ p) (Nat.two_pow_pos s)
  have hb2 : u / 2 ^ (64 - s) < 18446744073709551616 := Nat.lt_of_le_of_lt (Nat.div_le_self _ _) hu
  rw [ea, eb, bits_or_u64_nat _ _ ha hb2, or_disjoint _ _ _ hb, rotK_eq u hu s (by omega)]
theorem mask_walk (k : Nat) (h : k ≤ 63) : IntKind.u64.wrap (IntKind.u64.wrap (2 ^ k) - 1) = ((2 ^ k - 1 : Nat) : Int) := by
  have p : 0 < 2 ^ k := Nat.two_pow_pos _
  have q : 2 ^ k ≤ 2 ^ 63 := Nat.pow_le_pow_right (by decide) h
  have e : ((2 : Int) ^ k) = ((2 ^ k : Nat) : Int) := by simp
  rw [e, IntKind.wrap_u64, IntKind.wrap_u64]
  generalize 2 ^ k = x at *
  omega

/-! ### The lowest bit -/
theorem ctz_spec (u : Nat) (h0 : u ≠ 0) (h : u < 18446744073709551616) : ∃ m, u = 2 ^ Lib.ctz 64 u * (2 * m + 1) ∧ Lib.ctz 64 u < 64 := by
  unfold Lib.ctz
  rw [if_neg h0]
  exact Lib.ctzFrom_spec 64 u (by omega) h
theorem ctz_unique (u j m : Nat) (h : u = 2 ^ j * (2 * m + 1)) (hu : u < 18446744073709551616) : Lib.ctz 64 u = j := by
  have h0 : u ≠ 0 := by
    intro e; rw [e] at h
    have : 0 < 2 ^ j * (2 * m + 1) := Nat.mul_pos (Nat.two_pow_pos j) (by omega)
    omega
  obtain ⟨m', e, _⟩ := ctz_spec u h0 hu
  generalize Lib.ctz 64 u = i at *
  rw [h] at e
  rcases Nat.lt_trichotomy i j with hl | he | hl
  · obtain ⟨d, rfl⟩ : ∃ d, j = i + (d + 1) := ⟨j - i - 1, by omega⟩
    rw [Nat.pow_add, Nat.mul_assoc] at e
    have e := Nat.eq_of_mul_eq_mul_left (Nat.two_pow_pos i) e
    rw [Nat.pow_succ, Nat.mul_comm _ 2, Nat.mul_assoc] at e
    omega
  · exact he
  · obtain ⟨d, rfl⟩ : ∃ d, i = j + (d + 1) := ⟨i - j - 1, by omega⟩
    rw [Nat.pow_add, Nat.mul_assoc] at e
    have e := Nat.eq_of_mul_eq_mul_left (Nat.two_pow_pos j) e
    rw [Nat.pow_succ, Nat.mul_comm _ 2, Nat.mul_assoc] at e
    omega
end Go.Proofs.YthmccldkknhejaaDoor
