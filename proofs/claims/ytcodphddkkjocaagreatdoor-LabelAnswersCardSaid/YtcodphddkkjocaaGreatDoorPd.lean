/- Layer 6's calls on numbers: what each answers, for every input; memory is as it was. -/
import Derived.Test.YtcodphddkkjocaaGreatDoorGa
import Derived.Test.YtcodphddkkjocaaGreatDoorOnes
import Derived.Test.YtcodphddkkjocaaGreatDoorPc
import Derived.Handy
namespace Go.Proofs.YtcodphddkkjocaaGreatDoor
open Go.RowKit
set_option linter.unusedVariables false

/-- A category. -/
def isCat (c : Int) : Bool := decide (0 ≤ c) && decide (c < 64)
set_option maxHeartbeats 400000 in
theorem isCat_any (c : Int) (w : World) : Calls Tryz.prog 78 #[.int .i64 c] w fun e w' => e = .returned (.bool (isCat c)) ∧ w = w' := by
  by_cases h : 0 ≤ c
  · go_enter Tryz.func78, Tryz.ntmps78
    go_wp2
    go_ret
    simp [isCat, h]
  · go_enter Tryz.func78, Tryz.ntmps78
    go_wp2
    go_ret
    simp [isCat]; omega
theorem wrap_nat (u : Nat) (hu : u < 18446744073709551616) : IntKind.u64.wrap (u : Int) = (u : Int) := by rw [IntKind.wrap_u64]; omega
theorem pow_nat (c u : Nat) (hu : 2 ^ c = u) : (2 : Int) ^ c = (u : Int) := by rw [← hu, Int.natCast_pow]; rfl
set_option maxHeartbeats 400000 in
theorem only_any (c u : Nat) (h : c < 64) (hu : 2 ^ c = u) (w : World) : Calls Tryz.prog 63 #[.int .i64 c] w fun e w' => e = .returned (.int .u64 u) ∧ w = w' := by
  have h1 := pow_nat c u hu
  have h2 := wrap_nat u (by rw [← hu]; exact one_lt h)
  clear hu
  go_enter Tryz.func63, Tryz.ntmps63
  go_wp2
  go_ret
  simp
set_option maxHeartbeats 400000 in
theorem minus_any (a b m : Nat) (ha : a < 18446744073709551616) (hb : b < 18446744073709551616) (hm : minus a b = m) (w : World) : Calls Tryz.prog 33 #[.int .u64 a, .int .u64 b] w fun e w' => e = .returned (.int .u64 m) ∧ w = w' := by
  have h1 : bits .andNot .u64 (a : Int) (b : Int) = (m : Int) := by rw [u64_andNot_nat a b ha hb, ← hm]; rfl
  go_enter Tryz.func33, Tryz.ntmps33
  go_wp2
  go_ret
  exact ⟨rfl, rfl⟩
set_option maxHeartbeats 400000 in
theorem below_any (c u : Nat) (h : c < 64) (hu : 2 ^ c - 1 = u) (w : World) : Calls Tryz.prog 62 #[.int .i64 c] w fun e w' => e = .returned (.int .u64 u) ∧ w = w' := by
  obtain ⟨v, hv⟩ : ∃ v, 2 ^ c = v := ⟨_, rfl⟩
  have hv1 : 1 ≤ v := by rw [← hv]; exact Nat.one_le_two_pow
  have hv2 : v < 18446744073709551616 := by rw [← hv]; exact one_lt h
  have hc := only_any c v h hv
  have h1 : IntKind.u64.wrap ((v : Int) - 1) = (u : Int) := by rw [IntKind.wrap_u64]; omega
  clear hu hv
  go_enter Tryz.func62, Tryz.ntmps62
  go_wp2_with (go_at_call 63; refine (hc _).mono ?_; rintro e w' ⟨rfl, rfl⟩)
  go_ret
  exact ⟨rfl, rfl⟩
/-- Is all of a set in another one? -/
def within (a b : Nat) : Bool := decide (minus a b = 0)
set_option maxHeartbeats 400000 in
theorem within_any (a b : Nat) (o : Bool) (ha : a < 18446744073709551616) (hb : b < 18446744073709551616) (ho : within a b = o) (w : World) : Calls Tryz.prog 32 #[.int .u64 a, .int .u64 b] w fun e w' => e = .returned (.bool o) ∧ w = w' := by
  obtain ⟨m, hm⟩ : ∃ m, minus a b = m := ⟨_, rfl⟩
  have hc := minus_any a b m ha hb hm
  have h1 : ((m : Int) == 0) = o := by
    rw [← ho]; unfold within; rw [hm]
    by_cases h : m = 0
    · subst h; rfl
    · simp [h]
  clear hm
  go_enter Tryz.func32, Tryz.ntmps32
  go_wp2_with (go_at_call 33; refine (hc _).mono ?_; rintro e w' ⟨rfl, rfl⟩)
  go_ret
  simp
def hasN (s : Nat) (c : Int) : Bool := isCat c && s.testBit c.toNat
theorem has_eq (s : Nat) (hs : s < 18446744073709551616) (c : Nat) (h : c < 64) : within (2 ^ c) s = s.testBit c := by
  unfold within
  rw [Bool.eq_iff_iff, decide_eq_true_iff, minus_zero (one_lt h) hs]
  constructor
  · intro k; exact k c (by rw [bit_one]; simp)
  · intro k i hi
    rw [bit_one] at hi
    simp at hi; subst hi; exact k
theorem not_walk (y nb : Nat) (hy : y < 18446744073709551616) (h : 18446744073709551615 - y = nb) : bits .xor .u64 IntKind.u64.max (y : Int) = (nb : Int) := by
  have e : IntKind.u64.max = ((18446744073709551615 : Nat) : Int) := by decide
  rw [e, bits_xor_u64_nat _ _ (by decide) hy, Nat.xor_comm, xor_all y hy, h]
theorem sum_walk (c k q : Nat) (hc : c ≤ q) (hq : q < 64) (h : q + 1 - c = k) : IntKind.i64.wrap (IntKind.i64.wrap ((c : Int) + (k : Int)) - 1) = (q : Int) := by rw [IntKind.wrap_i64, IntKind.wrap_i64]; omega
/-- The table of package math/bits lies as its text lays it. -/
def Tab (w : World) : Prop := ∀ j, j < 64 → w.cell? ⟨1, j, none⟩ = some (.int .u8 (Lib.deBruijn64tab.getD j 0))
set_option maxHeartbeats 400000 in
theorem tz_zero (w : World) :
    Calls Tryz.prog 65 #[.int .u64 0] w fun e w' => e = .returned (.int .i64 64) ∧ w = w' := by
  go_enter Tryz.func65, Tryz.ntmps65
  go_wp2
  go_ret
  exact ⟨rfl, rfl⟩
theorem tz_key (x a : Nat) (hx : x < 18446744073709551616) (hx0 : x ≠ 0) (hlow : x &&& (18446744073709551616 - x) = a) :
    IntKind.u64.wrap (bits BinOp.and IntKind.u64 (x : Int) (IntKind.u64.wrap (-(x : Int))) * 285870213051353865) / 288230376151711744 = ((a * 285870213051353865 % 18446744073709551616 / 288230376151711744 : Nat) : Int) := by
  have e1 : IntKind.u64.wrap (-(x : Int)) = ((18446744073709551616 - x : Nat) : Int) := by rw [IntKind.wrap_u64]; omega
  rw [e1, bits_and_u64_nat x _ hx (by omega), hlow, IntKind.wrap_u64]
  omega
set_option maxHeartbeats 400000 in
theorem tz_core (x k idx : Nat) (w : World) (hx0 : ((x : Int) == 0) = false)
    (key : IntKind.u64.wrap (bits BinOp.and IntKind.u64 (x : Int) (IntKind.u64.wrap (-(x : Int))) * 285870213051353865) / 288230376151711744 = (idx : Int))
    (hi : idx < 64) (hk : k < 64) (hcell : w.cell? ⟨1, idx, none⟩ = some (.int .u8 k)) :
    Calls Tryz.prog 65 #[.int .u64 x] w fun e w' => e = .returned (.int .i64 k) ∧ w = w' := by
  go_enter Tryz.func65, Tryz.ntmps65
  go_wp2_with (simp only [key])
  go_ret
  exact ⟨rfl, rfl⟩
theorem tz_any (x : Nat) (hx : x < 18446744073709551616) (w : World) (hT : Tab w) :
    Calls Tryz.prog 65 #[.int .u64 x] w fun e w' => e = .returned (.int .i64 (Lib.ctz 64 x)) ∧ w = w' := by
  by_cases hx0 : x = 0
  · subst hx0
    exact tz_zero w
  · obtain ⟨hlow, hk⟩ := Lib.lowest_bit 64 x hx0 hx
    obtain ⟨hi, htab⟩ := Lib.deBruijn64_at _ hk
    refine tz_core x _ _ w (by simpa using hx0) (tz_key x _ hx hx0 hlow) hi hk ?_
    have := hT _ hi
    rw [htab] at this
    exact this
set_option maxHeartbeats 400000 in
theorem low_any (u c : Nat) (hu : u < 18446744073709551616) (hc : Lib.ctz 64 u = c) (w : World) (hT : Tab w) :
    Calls Tryz.prog 52 #[.int .u64 u] w fun e w' => e = .returned (.int .i64 c) ∧ w = w' := by
  have H := tz_any u hu w hT
  rw [hc] at H
  go_enter Tryz.func52, Tryz.ntmps52
  go_wp2_with (go_at_call 65; refine H.mono ?_; rintro e w' ⟨rfl, rfl⟩)
  go_ret
  exact ⟨rfl, rfl⟩
/-- How many bits are 1: as many as there are categories. -/
theorem pc_filter : ∀ (n s : Nat), s < 2 ^ n → ((List.range n).filter (fun i => s.testBit i)).length = pc s
  | 0, s, h => by
    obtain rfl : s = 0 := by simpa using h
    rw [pc_zero]; rfl
  | n + 1, s, h => by
    have ih := pc_filter n (s / 2) (by rw [Nat.pow_succ] at h; omega)
    rw [List.range_succ_eq_map, List.filter_cons, List.filter_map, pc_step s, ← ih]
    have e : ((fun i => s.testBit i) ∘ Nat.succ) = fun i => (s / 2).testBit i := by funext i; exact Nat.testBit_succ s i
    rw [e]
    have hb : s.testBit 0 = decide (s % 2 = 1) := Nat.testBit_zero s
    rw [hb]
    rcases Nat.mod_two_eq_zero_or_one s with h0 | h1
    · simp [h0]
    · simp [h1]; omega
theorem pc_cats {s : Nat} (h : s < 18446744073709551616) : pc s = (cats s).length := (pc_filter 64 s (by omega)).symm
end Go.Proofs.YtcodphddkkjocaaGreatDoor
