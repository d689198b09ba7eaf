/- The document's own answers for layer 1's calls on numbers: what each comes to. -/
import Derived.Test.YtafdaeenjjokiaaDoorMathb
import Derived.Test.YtafdaeenjjokiaaDoorWa
import Derived.Lib.Hide
namespace Go.Proofs.YtafdaeenjjokiaaDoor
open Go.RowKit

theorem pow_le (j k : Nat) (h : j ≤ k) : (2 : Nat) ^ j ≤ 2 ^ k := Nat.pow_le_pow_right (by decide) h

set_option maxHeartbeats 400000 in
theorem power_core (k q : Nat) (H : Hid (2 ^ k = q)) (hk : k ≤ 62) (w : World) :
    Calls Tryd.prog 38 #[.int .i64 k] w fun e w' => e = .returned (.int .i64 (q : Int)) ∧ w = w' := by
  go_enter Tryd.func38, Tryd.ntmps38
  go_wp2
  go_loop [3, 4] (fun n i => ∃ j : Nat, j ≤ k ∧ i = .int .i64 j ∧ n = .int .i64 ((2 ^ j : Nat) : Int)) (fun _ i => k - (intOf i).toNat)
  case atStart => exact ⟨0, Nat.zero_le _, rfl, rfl⟩
  case round =>
    obtain ⟨j, hj, rfl, rfl⟩ := hrel
    by_cases hlt : j < k
    · have hp : 2 ^ j ≤ 2305843009213693952 := pow_le j 61 (by omega)
      have hs := Lib.hid (Nat.pow_succ 2 j)
      generalize 2 ^ j = p at *
      go_wp2
      go_round
      case rel => exact ⟨j + 1, by omega, by go_num, by rw [hs.out]; go_num⟩
      case measure => simp [intOf]; omega
    · obtain rfl : j = k := by omega
      rw [H.out]
      go_wp2
      go_ret
      exact ⟨rfl, rfl⟩
theorem power_any (k : Nat) (hk : k ≤ 62) (w : World) :
    Calls Tryd.prog 38 #[.int .i64 k] w fun e w' => e = .returned (.int .i64 ((2 ^ k : Nat) : Int)) ∧ w = w' :=
  power_core k _ (Lib.hid rfl) hk w

theorem power_gives (i : Int) (k : Nat) (e : i = k) (hk : k ≤ 62) (w : World) :
    Calls Tryd.prog 38 #[.int .i64 i] w fun e w' => e = .returned (.int .i64 ((2 ^ k : Nat) : Int)) ∧ w = w' := by
  subst e; exact power_any k hk w

set_option maxHeartbeats 400000 in
theorem bit_core (u i q : Nat) (H : Hid (u / 2 ^ i % 2 = q)) (hi : i ≤ 64) (hu : u < 18446744073709551616) (w : World) :
    Calls Tryd.prog 40 #[.int .u64 u, .int .i64 i] w fun e w' => e = .returned (.int .u64 (q : Int)) ∧ w = w' := by
  go_enter Tryd.func40, Tryd.ntmps40
  go_wp2
  go_loop [0, 5] (fun v k => ∃ j : Nat, j ≤ i ∧ k = .int .i64 j ∧ v = .int .u64 ((u / 2 ^ j : Nat) : Int)) (fun _ k => i - (intOf k).toNat)
  case atStart => exact ⟨0, Nat.zero_le _, rfl, by simp⟩
  case round =>
    obtain ⟨j, hj, rfl, rfl⟩ := hrel
    have hs := Lib.hid (show u / 2 ^ j / 2 = u / 2 ^ (j + 1) by rw [Nat.pow_succ, Nat.div_div_eq_div_mul])
    have hl : u / 2 ^ j < 18446744073709551616 := Nat.lt_of_le_of_lt (Nat.div_le_self _ _) hu
    by_cases hlt : j < i
    · generalize u / 2 ^ j = v at *
      go_wp2
      go_round
      case rel => exact ⟨j + 1, by omega, by go_num, by rw [← hs.out]; go_num⟩
      case measure => simp [intOf]; omega
    · obtain rfl : j = i := by omega
      clear hs
      generalize u / 2 ^ j = v at *
      go_wp2
      go_ret
      exact ⟨by rw [← H.out]; go_num, rfl⟩
theorem bit_any (u i : Nat) (hi : i ≤ 64) (hu : u < 18446744073709551616) (w : World) :
    Calls Tryd.prog 40 #[.int .u64 u, .int .i64 i] w fun e w' => e = .returned (.int .u64 ((u / 2 ^ i % 2 : Nat) : Int)) ∧ w = w' :=
  bit_core u i _ (Lib.hid rfl) hi hu w

/-! ### Fits -/
theorem fits_iff (n : Int) (b : Nat) (h : 1 ≤ b) : (cutI n b == n) = (decide (-((2 ^ (b - 1) : Nat) : Int) ≤ n) && decide (n < ((2 ^ (b - 1) : Nat) : Int))) := by
  have hb := cut_bounds n b h
  have hs := cut_self n b h
  have e : ((2 ^ (b - 1) : Nat) : Int) = (2 : Int) ^ (b - 1) := by simp
  rw [e]
  generalize (2 : Int) ^ (b - 1) = H at *
  by_cases h1 : -H ≤ n <;> by_cases h2 : n < H
  · rw [hs h1 h2]; simp [h1, h2]
  · simp only [h1, h2, decide_true, decide_false, Bool.and_false, beq_eq_false_iff_ne]; omega
  · simp only [h1, h2, decide_true, decide_false, Bool.and_true, beq_eq_false_iff_ne]; omega
  · simp only [h1, h2, decide_false, Bool.and_false, beq_eq_false_iff_ne]; omega

set_option maxHeartbeats 400000 in
theorem refFits_no (n k : Int) (h : k < 1 ∨ (1 ≤ k ∧ 64 < k)) (w : World) :
    Calls Tryd.prog 13 #[.int .i64 n, .int .i64 k] w fun e w' => e = .returned (.bool false) ∧ w = w' := by
  rcases h with h | ⟨h1, h⟩
  all_goals
    go_enter Tryd.func13, Tryd.ntmps13
    go_wp2
    go_ret
    exact ⟨rfl, rfl⟩
set_option maxHeartbeats 400000 in
theorem refFits_64 (n : Int) (w : World) :
    Calls Tryd.prog 13 #[.int .i64 n, .int .i64 64] w fun e w' => e = .returned (.bool true) ∧ w = w' := by
  go_enter Tryd.func13, Tryd.ntmps13
  go_wp2
  go_ret
  exact ⟨rfl, rfl⟩
set_option maxHeartbeats 400000 in
theorem refFits_core (n k : Int) (p : Nat) (h : 1 ≤ k) (h2 : k ≤ 63) (hp : 2 ^ (k.toNat - 1) = p) (w : World) :
    Calls Tryd.prog 13 #[.int .i64 n, .int .i64 k] w fun e w' => e = .returned (.bool (decide (-(p : Int) ≤ n) && decide (n < (p : Int)))) ∧ w = w' := by
  have hpl : p ≤ 4611686018427387904 := by rw [← hp]; exact pow_le _ 62 (by omega)
  have c1 := power_gives (k - 1) (k.toNat - 1) (by omega) (by omega)
  rw [hp] at c1
  have hk64 : (k == 64) = false := by simp; omega
  clear hp
  by_cases hl : -(p : Int) ≤ n
  · go_enter Tryd.func13, Tryd.ntmps13
    go_wp2_with fail
    refine (c1 w).mono ?_
    rintro e w' ⟨rfl, rfl⟩
    go_wp2_with fail
    refine (c1 w).mono ?_
    rintro e w' ⟨rfl, rfl⟩
    go_wp2
    go_ret
    exact ⟨by simp [hl], rfl⟩
  · go_enter Tryd.func13, Tryd.ntmps13
    go_wp2_with fail
    refine (c1 w).mono ?_
    rintro e w' ⟨rfl, rfl⟩
    go_wp2
    go_ret
    have hf : decide (-(p : Int) ≤ n) = false := by simpa using hl
    exact ⟨by rw [hf]; rfl, rfl⟩
theorem refFits_yes (n k : Int) (h : 1 ≤ k) (h2 : k ≤ 64) (b1 : -9223372036854775808 ≤ n ∧ n ≤ 9223372036854775807) (w : World) :
    Calls Tryd.prog 13 #[.int .i64 n, .int .i64 k] w fun e w' => e = .returned (.bool (cutI n k.toNat == n)) ∧ w = w' := by
  by_cases h64 : k = 64
  · subst h64
    have e : (cutI n (64 : Int).toNat == n) = true := by
      have := cut_self n 64 (by omega) (by omega) (by omega)
      simp [this]
    rw [e]
    exact refFits_64 n w
  · rw [fits_iff n k.toNat (by omega)]
    exact refFits_core n k _ h (by omega) rfl w

/-! ### Cut -/
theorem emod_is (x y p q : Int) (h : x = y + p * q) (h0 : 0 ≤ y) (h1 : y < p) : x % p = y := by
  rw [h, Int.add_mul_emod_self_left, Int.emod_eq_of_lt h0 h1]
set_option maxHeartbeats 400000 in
theorem refCut_no (n k : Int) (h : k < 1 ∨ (1 ≤ k ∧ 64 < k)) (w : World) :
    Calls Tryd.prog 15 #[.int .i64 n, .int .i64 k] w fun e w' => e = .returned (.int .i64 0) ∧ w = w' := by
  rcases h with h | ⟨h1, h⟩
  all_goals
    go_enter Tryd.func15, Tryd.ntmps15
    go_wp2
    go_ret
    exact ⟨rfl, rfl⟩
set_option maxHeartbeats 400000 in
theorem refCut_64 (n : Int) (w : World) :
    Calls Tryd.prog 15 #[.int .i64 n, .int .i64 64] w fun e w' => e = .returned (.int .i64 n) ∧ w = w' := by
  go_enter Tryd.func15, Tryd.ntmps15
  go_wp2
  go_ret
  exact ⟨rfl, rfl⟩
set_option maxHeartbeats 1000000 in
theorem refCut_core (n k : Int) (p h : Nat) (c r : Int) (h1 : 1 ≤ k) (h2 : k ≤ 62) (hp : 2 ^ k.toNat = p) (hh : 2 ^ (k.toNat - 1) = h) (hph : Hid (p = 2 * h)) (hh0 : 0 < h) (hc : Hid (cutI n k.toNat = c)) (hr : n.tmod p = r) (w : World) :
    Calls Tryd.prog 15 #[.int .i64 n, .int .i64 k] w fun e w' => e = .returned (.int .i64 c) ∧ w = w' := by
  have hpl : p ≤ 4611686018427387904 := by rw [← hp]; exact pow_le _ 62 (by omega)
  have c1 := power_gives k k.toNat (by omega) (by omega)
  have c2 := power_gives (k - 1) (k.toNat - 1) (by omega) (by omega)
  have hcc : c = (n + h) % p - h := by
    rw [← hc.out]; unfold cutI
    rw [← hp, ← hh]; simp
  rw [hp] at c1
  rw [hh] at c2
  have hk64 : (k == 64) = false := by simp; omega
  have hk63 : (k == 63) = false := by simp; omega
  have hpp : p = 2 * h := hph.out
  have hp0 : 0 < (p : Int) := by omega
  have hb1 := Int.lt_tmod_of_pos n hp0
  have hb2 := Int.tmod_lt_of_pos n hp0
  have hd := Int.tmod_def n p
  rw [hr] at hb1 hb2 hd
  obtain ⟨q, hq⟩ : ∃ q, n.tdiv p = q := ⟨_, rfl⟩
  rw [hq] at hd
  have hp2 : (p : Int) = 2 * h := by omega
  have fA : r < 0 → (h : Int) ≤ r + p → c = r := fun a b => by
    rw [hcc, emod_is (n + h) (r + h) p q (by omega) (by omega) (by omega)]; omega
  have fB : r < 0 → r + p < h → c = r + p := fun a b => by
    rw [hcc, emod_is (n + h) (r + h + p) p (q - 1) (by rw [Int.mul_sub]; omega) (by omega) (by omega)]; omega
  have fC : 0 ≤ r → (h : Int) ≤ r → c = r - p := fun a b => by
    rw [hcc, emod_is (n + h) (r + h - p) p (q + 1) (by rw [Int.mul_add]; omega) (by omega) (by omega)]; omega
  have fD : 0 ≤ r → r < h → c = r := fun a b => by
    rw [hcc, emod_is (n + h) (r + h) p q (by omega) (by omega) (by omega)]; omega
  have FA := Lib.hid fA
  have FB := Lib.hid fB
  have FC := Lib.hid fC
  have FD := Lib.hid fD
  clear fA fB fC fD hd hq hpp hp2 hcc hp hh hc hph
  by_cases hr0 : r < 0
  · by_cases hrh : (h : Int) ≤ r + p
    · go_enter Tryd.func15, Tryd.ntmps15
      go_wp2_with fail
      refine (c1 w).mono ?_
      rintro e w' ⟨rfl, rfl⟩
      go_wp2_with fail
      refine (c1 w).mono ?_
      rintro e w' ⟨rfl, rfl⟩
      go_wp2_with fail
      refine (c2 w).mono ?_
      rintro e w' ⟨rfl, rfl⟩
      go_wp2_with fail
      refine (c1 w).mono ?_
      rintro e w' ⟨rfl, rfl⟩
      go_wp2
      go_ret
      exact ⟨by rw [FA.out hr0 hrh]; rfl, rfl⟩
    · go_enter Tryd.func15, Tryd.ntmps15
      go_wp2_with fail
      refine (c1 w).mono ?_
      rintro e w' ⟨rfl, rfl⟩
      go_wp2_with fail
      refine (c1 w).mono ?_
      rintro e w' ⟨rfl, rfl⟩
      go_wp2_with fail
      refine (c2 w).mono ?_
      rintro e w' ⟨rfl, rfl⟩
      go_wp2
      go_ret
      exact ⟨by rw [FB.out hr0 (by omega)]; rfl, rfl⟩
  · by_cases hrh : (h : Int) ≤ r
    · go_enter Tryd.func15, Tryd.ntmps15
      go_wp2_with fail
      refine (c1 w).mono ?_
      rintro e w' ⟨rfl, rfl⟩
      go_wp2_with fail
      refine (c2 w).mono ?_
      rintro e w' ⟨rfl, rfl⟩
      go_wp2_with fail
      refine (c1 w).mono ?_
      rintro e w' ⟨rfl, rfl⟩
      go_wp2
      go_ret
      exact ⟨by rw [FC.out (by omega) hrh]; rfl, rfl⟩
    · go_enter Tryd.func15, Tryd.ntmps15
      go_wp2_with fail
      refine (c1 w).mono ?_
      rintro e w' ⟨rfl, rfl⟩
      go_wp2_with fail
      refine (c2 w).mono ?_
      rintro e w' ⟨rfl, rfl⟩
      go_wp2
      go_ret
      exact ⟨by rw [FD.out (by omega) (by omega)]; rfl, rfl⟩

set_option maxHeartbeats 1000000 in
theorem refCut_63 (n c q r : Int) (b1 : -9223372036854775808 ≤ n) (b2 : n ≤ 9223372036854775807) (hc : Hid (cutI n 63 = c)) (hr : n.tmod 4611686018427387904 = r) (hq : n.tdiv 4611686018427387904 = q) (w : World) :
    Calls Tryd.prog 15 #[.int .i64 n, .int .i64 63] w fun e w' => e = .returned (.int .i64 c) ∧ w = w' := by
  have c1 : ∀ w, Calls Tryd.prog 38 #[.int .i64 62] w fun e w' => e = .returned (.int .i64 4611686018427387904) ∧ w = w' := fun w => power_any 62 (by omega) w
  have hd := Int.tmod_def n 4611686018427387904
  have hb1 := Int.lt_tmod_of_pos n (b := 4611686018427387904) (by decide)
  have hb2 := Int.tmod_lt_of_pos n (b := 4611686018427387904) (by decide)
  have hs1 : 0 ≤ n → 0 ≤ r := fun h => by rw [← hr]; exact Int.tmod_nonneg _ h
  have hs2 : n ≤ 0 → r ≤ 0 := fun h => by
    have := Int.tmod_nonneg (a := -n) 4611686018427387904 (by omega)
    rw [Int.neg_tmod, hr] at this
    omega
  rw [hr, hq] at hd
  rw [hr] at hb1 hb2
  have hcc : c = (n + 4611686018427387904) % 9223372036854775808 - 4611686018427387904 := by rw [← hc.out]; rfl
  have hqs : q = -2 ∨ q = -1 ∨ q = 0 ∨ q = 1 := by omega
  have HF : Hid ((r < 0 → (q = -1 → c = r + 4611686018427387904) ∧ (q = 0 → c = r)) ∧ (q = -2 → r = 0 ∧ c = 0) ∧ (q = 1 → 0 ≤ r ∧ c = r - 4611686018427387904) ∧ (0 ≤ r → (q = -1 → c = r - 4611686018427387904) ∧ (q = 0 → c = r))) := by
    apply Lib.hid
    refine ⟨fun h => ⟨fun e => ?_, fun e => ?_⟩, fun e => ?_, fun e => ?_, fun h => ⟨fun e => ?_, fun e => ?_⟩⟩ <;> subst e <;> omega
  clear hd hcc hc hs1 hs2
  by_cases hr0 : r < 0
  · rcases hqs with rfl | rfl | rfl | rfl
    · have := (HF.out.2.1 rfl).1; omega
    · have e := (HF.out.1 hr0).1 rfl
      have HE := Lib.hid e
      clear e HF
      go_enter Tryd.func15, Tryd.ntmps15
      go_wp2_with fail
      refine (c1 w).mono ?_
      rintro e w' ⟨rfl, rfl⟩
      go_wp2_with fail
      refine (c1 w).mono ?_
      rintro e w' ⟨rfl, rfl⟩
      go_wp2_with fail
      refine (c1 w).mono ?_
      rintro e w' ⟨rfl, rfl⟩
      go_wp2
      go_ret
      exact ⟨by rw [HE.out]; rfl, rfl⟩
    · have e := (HF.out.1 hr0).2 rfl
      have HE := Lib.hid e
      clear e HF
      go_enter Tryd.func15, Tryd.ntmps15
      go_wp2_with fail
      refine (c1 w).mono ?_
      rintro e w' ⟨rfl, rfl⟩
      go_wp2_with fail
      refine (c1 w).mono ?_
      rintro e w' ⟨rfl, rfl⟩
      go_wp2_with fail
      refine (c1 w).mono ?_
      rintro e w' ⟨rfl, rfl⟩
      go_wp2_with fail
      refine (c1 w).mono ?_
      rintro e w' ⟨rfl, rfl⟩
      go_wp2
      go_ret
      exact ⟨by rw [HE.out]; rfl, rfl⟩
    · have := (HF.out.2.2.1 rfl).1; omega
  · have hr1 : 0 ≤ r := by omega
    rcases hqs with rfl | rfl | rfl | rfl
    · have HE := Lib.hid (HF.out.2.1 rfl).2
      obtain rfl : r = 0 := (HF.out.2.1 rfl).1
      clear HF
      go_enter Tryd.func15, Tryd.ntmps15
      go_wp2_with fail
      refine (c1 w).mono ?_
      rintro e w' ⟨rfl, rfl⟩
      go_wp2_with fail
      refine (c1 w).mono ?_
      rintro e w' ⟨rfl, rfl⟩
      go_wp2
      go_ret
      exact ⟨by rw [HE.out]; rfl, rfl⟩
    · have HE := Lib.hid ((HF.out.2.2.2 hr1).1 rfl)
      clear HF
      go_enter Tryd.func15, Tryd.ntmps15
      go_wp2_with fail
      refine (c1 w).mono ?_
      rintro e w' ⟨rfl, rfl⟩
      go_wp2_with fail
      refine (c1 w).mono ?_
      rintro e w' ⟨rfl, rfl⟩
      go_wp2_with fail
      refine (c1 w).mono ?_
      rintro e w' ⟨rfl, rfl⟩
      go_wp2
      go_ret
      exact ⟨by rw [HE.out]; rfl, rfl⟩
    · have HE := Lib.hid ((HF.out.2.2.2 hr1).2 rfl)
      clear HF
      go_enter Tryd.func15, Tryd.ntmps15
      go_wp2_with fail
      refine (c1 w).mono ?_
      rintro e w' ⟨rfl, rfl⟩
      go_wp2_with fail
      refine (c1 w).mono ?_
      rintro e w' ⟨rfl, rfl⟩
      go_wp2
      go_ret
      exact ⟨by rw [HE.out]; rfl, rfl⟩
    · have HE := Lib.hid ((HF.out.2.2.1 rfl).2)
      clear HF
      go_enter Tryd.func15, Tryd.ntmps15
      go_wp2_with fail
      refine (c1 w).mono ?_
      rintro e w' ⟨rfl, rfl⟩
      go_wp2_with fail
      refine (c1 w).mono ?_
      rintro e w' ⟨rfl, rfl⟩
      go_wp2_with fail
      refine (c1 w).mono ?_
      rintro e w' ⟨rfl, rfl⟩
      go_wp2
      go_ret
      exact ⟨by rw [HE.out]; rfl, rfl⟩

theorem refCut_yes (n k : Int) (h : 1 ≤ k) (h2 : k ≤ 64) (b1 : -9223372036854775808 ≤ n ∧ n ≤ 9223372036854775807) (w : World) :
    Calls Tryd.prog 15 #[.int .i64 n, .int .i64 k] w fun e w' => e = .returned (.int .i64 (cutI n k.toNat)) ∧ w = w' := by
  by_cases h64 : k = 64
  · subst h64
    rw [show cutI n (64 : Int).toNat = n from cut_self n 64 (by omega) (by omega) (by omega)]
    exact refCut_64 n w
  · by_cases h63 : k = 63
    · subst h63
      exact refCut_63 n _ _ _ b1.1 b1.2 (Lib.hid rfl) rfl rfl w
    · have e : 2 ^ k.toNat = 2 * 2 ^ (k.toNat - 1) := by
        rw [← Nat.pow_succ', show (k.toNat - 1).succ = k.toNat by omega]
      exact refCut_core n k _ _ _ _ h (by omega) rfl rfl (Lib.hid e) (Nat.two_pow_pos _) (Lib.hid rfl) rfl w
end Go.Proofs.YtafdaeenjjokiaaDoor
