/- The walks of layer 1's calls on numbers: what each answers, for every input; memory is as it was. -/
import Derived.Test.YtafdaeenjjokiaaDoorRows
import Derived.Test.YtafdaeenjjokiaaDoorOnes
import Derived.WalkKit
import Derived.WalkSpells
import Derived.WalkLawsBesides
namespace Go.Proofs.YtafdaeenjjokiaaDoor
open Go.RowKit

set_option maxHeartbeats 400000 in
theorem rightBits_yes (b : Int) (h : 1 ≤ b) (h2 : b ≤ 64) (w : World) :
    Calls Tryd.prog 37 #[.int .i64 b] w fun e w' => e = .returned (.bool true) ∧ w = w' := by
  go_enter Tryd.func37, Tryd.ntmps37
  go_wp2
  go_ret
  simp

set_option maxHeartbeats 400000 in
theorem rightBits_no (b : Int) (h : b < 1 ∨ 64 < b) (w : World) :
    Calls Tryd.prog 37 #[.int .i64 b] w fun e w' => e = .returned (.bool false) ∧ w = w' := by
  rcases h with h | h
  · go_enter Tryd.func37, Tryd.ntmps37
    go_wp2
    go_ret
    simp
  · have h1 : 1 ≤ b := by omega
    go_enter Tryd.func37, Tryd.ntmps37
    go_wp2
    go_ret
    simp; omega

set_option maxHeartbeats 400000 in
theorem cut_yes (n k : Int) (h : 1 ≤ k) (h2 : k ≤ 64) (w : World) :
    Calls Tryd.prog 14 #[.int .i64 n, .int .i64 k] w fun e w' => e = .returned (.int .i64 (cutI n k.toNat)) ∧ w = w' := by
  go_enter Tryd.func14, Tryd.ntmps14
  go_wp2_with (go_at_call 37; refine (rightBits_yes _ h h2 _).mono ?_; rintro e w' ⟨rfl, rfl⟩)
  go_ret
  have e : (64 - k).toNat = 64 - k.toNat := by omega
  rw [e, cut_shift n k.toNat (by omega) (by omega)]
  exact ⟨rfl, rfl⟩

set_option maxHeartbeats 400000 in
theorem cut_no (n k : Int) (h : k < 1 ∨ 64 < k) (w : World) :
    Calls Tryd.prog 14 #[.int .i64 n, .int .i64 k] w fun e w' => e = .returned (.int .i64 0) ∧ w = w' := by
  go_enter Tryd.func14, Tryd.ntmps14
  go_wp2_with (go_at_call 37; refine (rightBits_no _ h _).mono ?_; rintro e w' ⟨rfl, rfl⟩)
  go_ret
  simp

set_option maxHeartbeats 400000 in
theorem fits_yes (n k : Int) (h : 1 ≤ k) (h2 : k ≤ 64) (w : World) :
    Calls Tryd.prog 12 #[.int .i64 n, .int .i64 k] w fun e w' => e = .returned (.bool (cutI n k.toNat == n)) ∧ w = w' := by
  go_enter Tryd.func12, Tryd.ntmps12
  go_wp2_with (first | (go_at_call 37; refine (rightBits_yes _ h h2 _).mono ?_; rintro e w' ⟨rfl, rfl⟩) | (go_at_call 14; refine (cut_yes _ _ h h2 _).mono ?_; rintro e w' ⟨rfl, rfl⟩))
  go_ret
  simp

set_option maxHeartbeats 400000 in
theorem fits_no (n k : Int) (h : k < 1 ∨ 64 < k) (w : World) :
    Calls Tryd.prog 12 #[.int .i64 n, .int .i64 k] w fun e w' => e = .returned (.bool false) ∧ w = w' := by
  go_enter Tryd.func12, Tryd.ntmps12
  go_wp2_with (go_at_call 37; refine (rightBits_no _ h _).mono ?_; rintro e w' ⟨rfl, rfl⟩)
  go_ret
  simp

set_option maxHeartbeats 400000 in
theorem zig_any (n : Int) (h1 : -9223372036854775808 ≤ n) (h2 : n < 9223372036854775808) (w : World) :
    Calls Tryd.prog 16 #[.int .i64 n] w fun e w' => e = .returned (.int .u64 (zigI n)) ∧ w = w' := by
  have hz := zig_walk n h1 h2
  go_enter Tryd.func16, Tryd.ntmps16
  go_wp2
  go_ret
  exact ⟨rfl, rfl⟩

set_option maxHeartbeats 400000 in
theorem zag_any (n : Nat) (hn : n < 18446744073709551616) (w : World) :
    Calls Tryd.prog 18 #[.int .u64 n] w fun e w' => e = .returned (.int .i64 (zagI n)) ∧ w = w' := by
  have hz := zag_walk n hn
  go_enter Tryd.func18, Tryd.ntmps18
  go_wp2
  go_ret
  exact ⟨rfl, rfl⟩

set_option maxHeartbeats 400000 in
theorem ones_any (u : Nat) (hu : u < 18446744073709551616) (w : World) :
    Calls Tryd.prog 41 #[.int .u64 u] w fun e w' => e = .returned (.int .i64 (pc u)) ∧ w = w' := by
  have e1 := w1 u hu
  have e2 := w2 u
  have e3 := w3 u
  have e4 := w4 u
  have e5 := w5 u
  have e6 := w6 u
  have e7 := w7 u hu
  go_enter Tryd.func41, Tryd.ntmps41
  go_wp2
  go_ret
  exact ⟨rfl, rfl⟩

set_option maxHeartbeats 400000 in
theorem count_any (u : Nat) (hu : u < 18446744073709551616) (w : World) :
    Calls Tryd.prog 22 #[.int .u64 u] w fun e w' => e = .returned (.int .i64 (pc u)) ∧ w = w' := by
  go_enter Tryd.func22, Tryd.ntmps22
  go_wp2_with (go_at_call 41; refine (ones_any _ hu _).mono ?_; rintro e w' ⟨rfl, rfl⟩)
  go_ret
  exact ⟨rfl, rfl⟩

set_option maxHeartbeats 400000 in
theorem rotl_any (u : Nat) (hu : u < 18446744073709551616) (k : Int) (w : World) :
    Calls Tryd.prog 39 #[.int .u64 u, .int .i64 k] w fun e w' => e = .returned (.int .u64 (turnI u k)) ∧ w = w' := by
  have hp := places k
  have h1 : (k % 64).toNat < 64 := by omega
  unfold turnI
  generalize (k % 64).toNat = s at *
  go_enter Tryd.func39, Tryd.ntmps39
  go_wp2
  go_ret
  rw [rot_walk u s hu h1]
  exact ⟨rfl, rfl⟩

set_option maxHeartbeats 400000 in
theorem turn_any (u : Nat) (hu : u < 18446744073709551616) (k : Int) (w : World) :
    Calls Tryd.prog 20 #[.int .u64 u, .int .i64 k] w fun e w' => e = .returned (.int .u64 (turnI u k)) ∧ w = w' := by
  go_enter Tryd.func20, Tryd.ntmps20
  go_wp2_with (go_at_call 39; refine (rotl_any _ hu _ _).mono ?_; rintro e w' ⟨rfl, rfl⟩)
  go_ret
  exact ⟨rfl, rfl⟩

/-- The table of package math/bits lies as its text lays it. -/
def Tab (w : World) : Prop := ∀ j, j < 64 → w.cell? ⟨0, j, none⟩ = some (.int .u8 (Lib.deBruijn64tab.getD j 0))

set_option maxHeartbeats 400000 in
theorem tz_zero (w : World) :
    Calls Tryd.prog 42 #[.int .u64 0] w fun e w' => e = .returned (.int .i64 64) ∧ w = w' := by
  go_enter Tryd.func42, Tryd.ntmps42
  go_wp2
  go_ret
  exact ⟨rfl, rfl⟩

theorem tz_key (x a : Nat) (hx : x < 18446744073709551616) (hx0 : x ≠ 0) (hlow : x &&& (18446744073709551616 - x) = a) :
    IntKind.u64.wrap (bits BinOp.and IntKind.u64 (x : Int) (IntKind.u64.wrap (-(x : Int))) * 285870213051353865) / 288230376151711744 = ((a * 285870213051353865 % 18446744073709551616 / 288230376151711744 : Nat) : Int) := by
  have e1 : IntKind.u64.wrap (-(x : Int)) = ((18446744073709551616 - x : Nat) : Int) := by rw [IntKind.wrap_u64]; omega
  rw [e1, bits_and_u64_nat x _ hx (by omega), hlow, IntKind.wrap_u64]
  omega

set_option maxHeartbeats 400000 in
theorem tz_core (x k idx : Nat) (w : World) (hx0 : ((x : Int) == 0) = false)
    (key : IntKind.u64.wrap (bits BinOp.and IntKind.u64 (x : Int) (IntKind.u64.wrap (-(x : Int))) * 285870213051353865) / 288230376151711744 = (idx : Int))
    (hi : idx < 64) (hk : k < 64) (hcell : w.cell? ⟨0, idx, none⟩ = some (.int .u8 k)) :
    Calls Tryd.prog 42 #[.int .u64 x] w fun e w' => e = .returned (.int .i64 k) ∧ w = w' := by
  go_enter Tryd.func42, Tryd.ntmps42
  go_wp2_with (simp only [key])
  go_ret
  exact ⟨rfl, rfl⟩

theorem tz_any (x : Nat) (hx : x < 18446744073709551616) (w : World) (hT : Tab w) :
    Calls Tryd.prog 42 #[.int .u64 x] w fun e w' => e = .returned (.int .i64 (Lib.ctz 64 x)) ∧ w = w' := by
  by_cases hx0 : x = 0
  · subst hx0
    exact tz_zero w
  · obtain ⟨hlow, hk⟩ := Lib.lowest_bit 64 x hx0 hx
    obtain ⟨hi, htab⟩ := Lib.deBruijn64_at _ hk
    refine tz_core x _ _ w (by simpa using hx0) (tz_key x _ hx hx0 hlow) hi hk ?_
    have := hT _ hi
    rw [htab] at this
    exact this

set_option maxHeartbeats 400000 in
theorem low_any (u : Nat) (hu : u < 18446744073709551616) (w : World) (hT : Tab w) :
    Calls Tryd.prog 24 #[.int .u64 u] w fun e w' => e = .returned (.int .i64 (Lib.ctz 64 u)) ∧ w = w' := by
  have H := tz_any u hu w hT
  go_enter Tryd.func24, Tryd.ntmps24
  go_wp2_with (go_at_call 42; refine H.mono ?_; rintro e w' ⟨rfl, rfl⟩)
  go_ret
  exact ⟨rfl, rfl⟩

set_option maxHeartbeats 400000 in
theorem mask_any (k : Int) (h : 1 ≤ k) (h2 : k ≤ 63) (w : World) :
    Calls Tryd.prog 45 #[.int .i64 k] w fun e w' => e = .returned (.int .u64 ((2 ^ k.toNat - 1 : Nat) : Int)) ∧ w = w' := by
  go_enter Tryd.func45, Tryd.ntmps45
  go_wp2
  go_ret
  rw [mask_walk k.toNat (by omega)]
  exact ⟨rfl, rfl⟩

end Go.Proofs.YtafdaeenjjokiaaDoor
