/- Layer 6's calls on numbers: what each answers, for every input; memory is as it was. -/
import Derived.Test.YthmccldkknhejaaDoorGa
import Derived.Test.YthmccldkknhejaaDoorOnes
import Derived.Test.YthmccldkknhejaaDoorPc
import Derived.Handy
namespace Go.Proofs.YthmccldkknhejaaDoor
open Go.RowKit
set_option linter.unusedVariables false

/-- A category. -/
def isCat (c : Int) : Bool := decide (0 ≤ c) && decide (c < 64)
set_option maxHeartbeats 400000 in
theorem isCat_any (c : Int) (w : World) : Calls Tryd.prog 32 #[.int .i64 c] w fun e w' => e = .returned (.bool (isCat c)) ∧ w = w' := by
  by_cases h : 0 ≤ c
  · go_enter Tryd.func32, Tryd.ntmps32
    go_wp2
    go_ret
    simp [isCat, h]
  · go_enter Tryd.func32, Tryd.ntmps32
    go_wp2
    go_ret
    simp [isCat]; omega
theorem wrap_nat (u : Nat) (hu : u < 18446744073709551616) : IntKind.u64.wrap (u : Int) = (u : Int) := by rw [IntKind.wrap_u64]; omega
theorem pow_nat (c u : Nat) (hu : 2 ^ c = u) : (2 : Int) ^ c = (u : Int) := by rw [← hu, Int.natCast_pow]; rfl
set_option maxHeartbeats 400000 in
theorem only_any (c u : Nat) (h : c < 64) (hu : 2 ^ c = u) (w : World) : Calls Tryd.prog 33 #[.int .i64 c] w fun e w' => e = .returned (.int .u64 u) ∧ w = w' := by
  have h1 := pow_nat c u hu
  have h2 := wrap_nat u (by rw [← hu]; exact one_lt h)
  clear hu
  go_enter Tryd.func33, Tryd.ntmps33
  go_wp2
  go_ret
  simp
set_option maxHeartbeats 400000 in
theorem minus_any (a b m : Nat) (ha : a < 18446744073709551616) (hb : b < 18446744073709551616) (hm : minus a b = m) (w : World) : Calls Tryd.prog 22 #[.int .u64 a, .int .u64 b] w fun e w' => e = .returned (.int .u64 m) ∧ w = w' := by
  have h1 : bits .andNot .u64 (a : Int) (b : Int) = (m : Int) := by rw [u64_andNot_nat a b ha hb, ← hm]; rfl
  go_enter Tryd.func22, Tryd.ntmps22
  go_wp2
  go_ret
  exact ⟨rfl, rfl⟩
set_option maxHeartbeats 400000 in
theorem below_any (c u : Nat) (h : c < 64) (hu : 2 ^ c - 1 = u) (w : World) : Calls Tryd.prog 48 #[.int .i64 c] w fun e w' => e = .returned (.int .u64 u) ∧ w = w' := by
  obtain ⟨v, hv⟩ : ∃ v, 2 ^ c = v := ⟨_, rfl⟩
  have hv1 : 1 ≤ v := by rw [← hv]; exact Nat.one_le_two_pow
  have hv2 : v < 18446744073709551616 := by rw [← hv]; exact one_lt h
  have hc := only_any c v h hv
  have h1 : IntKind.u64.wrap ((v : Int) - 1) = (u : Int) := by rw [IntKind.wrap_u64]; omega
  clear hu hv
  go_enter Tryd.func48, Tryd.ntmps48
  go_wp2_with (go_at_call 33; refine (hc _).mono ?_; rintro e w' ⟨rfl, rfl⟩)
  go_ret
  exact ⟨rfl, rfl⟩
/-- Is all of a set in another one? -/
def within (a b : Nat) : Bool := decide (minus a b = 0)
set_option maxHeartbeats 400000 in
theorem within_any (a b : Nat) (o : Bool) (ha : a < 18446744073709551616) (hb : b < 18446744073709551616) (ho : within a b = o) (w : World) : Calls Tryd.prog 20 #[.int .u64 a, .int .u64 b] w fun e w' => e = .returned (.bool o) ∧ w = w' := by
  obtain ⟨m, hm⟩ : ∃ m, minus a b = m := ⟨_, rfl⟩
  have hc := minus_any a b m ha hb hm
  have h1 : ((m : Int) == 0) = o := by
    rw [← ho]; unfold within; rw [hm]
    by_cases h : m = 0
    · subst h; rfl
    · simp [h]
  clear hm
  go_enter Tryd.func20, Tryd.ntmps20
  go_wp2_with (go_at_call 22; refine (hc _).mono ?_; rintro e w' ⟨rfl, rfl⟩)
  go_ret
  simp
def hasN (s : Nat) (c : Int) : Bool := isCat c && s.testBit c.toNat
theorem has_eq (s : Nat) (hs : s < 18446744073709551616) (c : Nat) (h : c < 64) : within (2 ^ c) s = s.testBit c := by
  unfold within
  rw [Bool.eq_iff_iff, decide_eq_true_iff, minus_zero (one_lt h) hs]
  constructor
  · intro k; exact k c (by rw [bit_one]; simp)
  · intro k i hi
    rw [bit_one] at hi
    simp at hi; subst hi; exact k
set_option maxHeartbeats 400000 in
theorem has_any (s : Nat) (c : Int) (o : Bool) (hs : s < 18446744073709551616) (ho : hasN s c = o) (w : World) : Calls Tryd.prog 18 #[.int .u64 s, .int .i64 c] w fun e w' => e = .returned (.bool o) ∧ w = w' := by
  by_cases h : isCat c = true
  · obtain ⟨k, rfl⟩ : ∃ k : Nat, c = k := ⟨c.toNat, by simp [isCat] at h; omega⟩
    have hk : k < 64 := by simp [isCat] at h; omega
    obtain ⟨u, hu⟩ : ∃ u, 2 ^ k = u := ⟨_, rfl⟩
    have h1 := isCat_any k
    rw [h] at h1
    have h2 := only_any k u hk hu
    have h3 := within_any u s o (by rw [← hu]; exact one_lt hk) hs (by rw [← hu, has_eq s hs k hk, ← ho]; unfold hasN; rw [h]; rfl)
    clear hu ho h
    go_enter Tryd.func18, Tryd.ntmps18
    go_wp2_with (first | (go_at_call 32; refine (h1 _).mono ?_; rintro e w' ⟨rfl, rfl⟩) | (go_at_call 33; refine (h2 _).mono ?_; rintro e w' ⟨rfl, rfl⟩) | (go_at_call 20; refine (h3 _).mono ?_; rintro e w' ⟨rfl, rfl⟩))
    go_ret
    exact ⟨rfl, rfl⟩
  · have hf : isCat c = false := by simpa using h
    have h1 := isCat_any c
    rw [hf] at h1
    have : o = false := by rw [← ho]; unfold hasN; rw [hf]; rfl
    subst this
    clear ho h hf
    go_enter Tryd.func18, Tryd.ntmps18
    go_wp2_with (first | (go_at_call 32; refine (h1 _).mono ?_; rintro e w' ⟨rfl, rfl⟩))
    go_ret
    exact ⟨rfl, rfl⟩
set_option maxHeartbeats 400000 in
theorem ones_any (u : Nat) (hu : u < 18446744073709551616) (w : World) :
    Calls Tryd.prog 55 #[.int .u64 u] w fun e w' => e = .returned (.int .i64 (pc u)) ∧ w = w' := by
  have e1 := w1 u hu
  have e2 := w2 u
  have e3 := w3 u
  have e4 := w4 u
  have e5 := w5 u
  have e6 := w6 u
  have e7 := w7 u hu
  go_enter Tryd.func55, Tryd.ntmps55
  go_wp2
  go_ret
  exact ⟨rfl, rfl⟩
set_option maxHeartbeats 400000 in
theorem count_any (u : Nat) (hu : u < 18446744073709551616) (w : World) :
    Calls Tryd.prog 43 #[.int .u64 u] w fun e w' => e = .returned (.int .i64 (pc u)) ∧ w = w' := by
  go_enter Tryd.func43, Tryd.ntmps43
  go_wp2_with (go_at_call 55; refine (ones_any _ hu _).mono ?_; rintro e w' ⟨rfl, rfl⟩)
  go_ret
  exact ⟨rfl, rfl⟩

theorem not_walk (y nb : Nat) (hy : y < 18446744073709551616) (h : 18446744073709551615 - y = nb) : bits .xor .u64 IntKind.u64.max (y : Int) = (nb : Int) := by
  have e : IntKind.u64.max = ((18446744073709551615 : Nat) : Int) := by decide
  rw [e, bits_xor_u64_nat _ _ (by decide) hy, Nat.xor_comm, xor_all y hy, h]
theorem sum_walk (c k q : Nat) (hc : c ≤ q) (hq : q < 64) (h : q + 1 - c = k) : IntKind.i64.wrap (IntKind.i64.wrap ((c : Int) + (k : Int)) - 1) = (q : Int) := by rw [IntKind.wrap_i64, IntKind.wrap_i64]; omega
/-- The table of package math/bits lies as its text lays it. -/
def Tab (w : World) : Prop := ∀ j, j < 64 → w.cell? ⟨0, j, none⟩ = some (.int .u8 (Lib.deBruijn64tab.getD j 0))
set_option maxHeartbeats 400000 in
theorem tz_zero (w : World) :
    Calls Tryd.prog 50 #[.int .u64 0] w fun e w' => e = .returned (.int .i64 64) ∧ w = w' := by
  go_enter Tryd.func50, Tryd.ntmps50
  go_wp2
  go_ret
  exact ⟨rfl, rfl⟩
theorem tz_key (x a : Nat) (hx : x < 18446744073709551616) (hx0 : x ≠ 0) (hlow : x &&& (18446744073709551616 - x) = a) :
    IntKind.u64.wrap (bits BinOp.and IntKind.u64 (x : Int) (IntKind.u64.wrap (-(x : Int))) * 285870213051353865) / 288230376151711744 = ((a * 285870213051353865 % 18446744073709551616 / 288230376151711744 : Nat) : Int) := by
  have e1 : IntKind.u64.wrap (-(x : Int)) = ((18446744073709551616 - x : Nat) : Int) := by rw [IntKind.wrap_u64]; omega
  rw [e1, bits_and_u64_nat x _ hx (by omega), hlow, IntKind.wrap_u64]
  omega
set_option maxHeartbeats 400000 in
theorem tz_core (x k idx : Nat) (w : World) (hx0 : ((x : Int) == 0) = false)
    (key : IntKind.u64.wrap (bits BinOp.and IntKind.u64 (x : Int) (IntKind.u64.wrap (-(x : Int))) * 285870213051353865) / 288230376151711744 = (idx : Int))
    (hi : idx < 64) (hk : k < 64) (hcell : w.cell? ⟨0, idx, none⟩ = some (.int .u8 k)) :
    Calls Tryd.prog 50 #[.int .u64 x] w fun e w' => e = .returned (.int .i64 k) ∧ w = w' := by
  go_enter Tryd.func50, Tryd.ntmps50
  go_wp2_with (simp only [key])
  go_ret
  exact ⟨rfl, rfl⟩
theorem tz_any (x : Nat) (hx : x < 18446744073709551616) (w : World) (hT : Tab w) :
    Calls Tryd.prog 50 #[.int .u64 x] w fun e w' => e = .returned (.int .i64 (Lib.ctz 64 x)) ∧ w = w' := by
  by_cases hx0 : x = 0
  · subst hx0
    exact tz_zero w
  · obtain ⟨hlow, hk⟩ := Lib.lowest_bit 64 x hx0 hx
    obtain ⟨hi, htab⟩ := Lib.deBruijn64_at _ hk
    refine tz_core x _ _ w (by simpa using hx0) (tz_key x _ hx hx0 hlow) hi hk ?_
    have := hT _ hi
    rw [htab] at this
    exact this
set_option maxHeartbeats 400000 in
theorem low_any (u c : Nat) (hu : u < 18446744073709551616) (hc : Lib.ctz 64 u = c) (w : World) (hT : Tab w) :
    Calls Tryd.prog 39 #[.int .u64 u] w fun e w' => e = .returned (.int .i64 c) ∧ w = w' := by
  have H := tz_any u hu w hT
  rw [hc] at H
  go_enter Tryd.func39, Tryd.ntmps39
  go_wp2_with (go_at_call 50; refine H.mono ?_; rintro e w' ⟨rfl, rfl⟩)
  go_ret
  exact ⟨rfl, rfl⟩
/-- How many bits are 1: as many as there are categories. -/
theorem pc_filter : ∀ (n s : Nat), s < 2 ^ n → ((List.range n).filter (fun i => s.testBit i)).length = pc s
  | 0, s, h => by
    obtain rfl : s = 0 := by simpa using h
    rw [pc_zero]; rfl
  | n + 1, s, h => by
    have ih := pc_filter n (s / 2) (by rw [Nat.pow_succ] at h; omega)
    rw [List.range_succ_eq_map, List.filter_cons, List.filter_map, pc_step s, ← ih]
    have e : ((fun i => s.testBit i) ∘ Nat.succ) = fun i => (s / 2).testBit i := by funext i; exact Nat.testBit_succ s i
    rw [e]
    have hb : s.testBit 0 = decide (s % 2 = 1) := Nat.testBit_zero s
    rw [hb]
    rcases Nat.mod_two_eq_zero_or_one s with h0 | h1
    · simp [h0]
    · simp [h1]; omega
theorem pc_cats {s : Nat} (h : s < 18446744073709551616) : pc s = (cats s).length := (pc_filter 64 s (by omega)).symm
end Go.Proofs.YthmccldkknhejaaDoor
