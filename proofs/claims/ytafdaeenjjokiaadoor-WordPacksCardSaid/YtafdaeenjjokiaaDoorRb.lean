/- The document's own answers for layer 1's calls on words: Zig, Zag, Turn, Count, Low. -/
import Derived.Test.YtafdaeenjjokiaaDoorRa
namespace Go.Proofs.YtafdaeenjjokiaaDoor
open Go.RowKit

theorem ret_int {k : IntKind} {a b : Int} (h : a = b) : Ending.returned (.int k a) = .returned (.int k b) := by rw [h]

set_option maxHeartbeats 400000 in
theorem refZig_any (n : Int) (b1 : -9223372036854775808 ≤ n ∧ n ≤ 9223372036854775807) (w : World) :
    Calls Tryd.prog 17 #[.int .i64 n] w fun e w' => e = .returned (.int .u64 (zigI n)) ∧ w = w' := by
  obtain ⟨h1, h2⟩ := b1
  unfold zigI
  by_cases h : n < 0
  · go_enter Tryd.func17, Tryd.ntmps17
    go_wp2
    go_ret
    exact ⟨ret_int (by omega), rfl⟩
  · go_enter Tryd.func17, Tryd.ntmps17
    go_wp2
    go_ret
    exact ⟨ret_int (by omega), rfl⟩

set_option maxHeartbeats 400000 in
theorem refZag_any (u : Nat) (hu : u < 18446744073709551616) (w : World) :
    Calls Tryd.prog 19 #[.int .u64 u] w fun e w' => e = .returned (.int .i64 (zagI u)) ∧ w = w' := by
  have hz := Lib.hid (show (u % 2 = 1 → zagI u = -((u / 2 : Nat) : Int) - 1) ∧ (u % 2 ≠ 1 → zagI u = ((u / 2 : Nat) : Int)) from ⟨fun h => by unfold zagI; rw [if_pos h], fun h => by unfold zagI; rw [if_neg h]⟩)
  generalize zagI u = z at *
  by_cases h : u % 2 = 1
  · have hb : ((u : Int) % 2 == 1) = true := by simp; omega
    have HZ := Lib.hid (hz.out.1 h)
    clear h hz
    go_enter Tryd.func19, Tryd.ntmps19
    go_wp2
    go_ret
    exact ⟨ret_int (by have := HZ.out; omega), rfl⟩
  · have hb : ((u : Int) % 2 == 1) = false := by simp; omega
    have HZ := Lib.hid (hz.out.2 h)
    clear h hz
    go_enter Tryd.func19, Tryd.ntmps19
    go_wp2
    go_ret
    exact ⟨ret_int (by have := HZ.out; omega), rfl⟩

/-! ### Turn -/
theorem rot1_walk (v : Nat) (h : v < 18446744073709551616) : IntKind.u64.wrap (IntKind.u64.wrap ((v : Int) * 2) + ((v / 2 ^ 63 % 2 : Nat) : Int)) = ((rot1 v : Nat) : Int) := by
  unfold rot1
  have e : v / 2 ^ 63 % 2 = v / 9223372036854775808 := by omega
  rw [e, IntKind.wrap_u64, IntKind.wrap_u64]
  have h2 : v / 9223372036854775808 = 0 ∨ v / 9223372036854775808 = 1 := by omega
  rcases h2 with h2 | h2 <;> rw [h2] <;> omega

set_option maxHeartbeats 1000000 in
theorem refTurn_core (u s : Nat) (k r : Int) (hu : u < 18446744073709551616) (hr : k.tmod 64 = r) (hrs : r = s ∨ (r < 0 ∧ r + 64 = s)) (hs : s < 64) (q : Nat) (H : Hid (rotK u s = q)) (w : World) :
    Calls Tryd.prog 21 #[.int .u64 u, .int .i64 k] w fun e w' => e = .returned (.int .u64 (q : Int)) ∧ w = w' := by
  have hr2 := tmod64 k
  rw [hr] at hr2
  obtain ⟨hr3, hr4, _⟩ := hr2
  rcases hrs with hrs | ⟨hneg, hrs⟩
  · subst hrs
    go_enter Tryd.func21, Tryd.ntmps21
    go_wp2
    go_loop [0, 5, 6] (fun v i _ => ∃ j : Nat, j ≤ s ∧ i = .int .i64 j ∧ v = .int .u64 ((rotK u j : Nat) : Int)) (fun _ i _ => s - (intOf i).toNat)
    case atStart => exact ⟨0, Nat.zero_le _, rfl, rfl⟩
    case round =>
      obtain ⟨j, hj, rfl, rfl⟩ := hrel
      by_cases hlt : j < s
      · have hl := rotK_lt u j hu
        have hn := Lib.hid (show rot1 (rotK u j) = rotK u (j + 1) from rfl)
        generalize rotK u j = v at *
        have hw := rot1_walk v hl
        have c := bit_any v 63 (by omega) hl
        generalize v / 2 ^ 63 % 2 = t at *
        go_wp2_with (go_at_call 40; refine (c _).mono ?_; rintro e w' ⟨rfl, rfl⟩)
        go_round
        case rel => exact ⟨j + 1, by omega, by go_num, by rw [← hn.out]⟩
        case measure => simp [intOf]; omega
      · obtain rfl : j = s := by omega
        rw [H.out]
        go_wp2
        go_ret
        exact ⟨rfl, rfl⟩
  · go_enter Tryd.func21, Tryd.ntmps21
    go_wp2
    go_loop [0, 5, 6] (fun v i _ => ∃ j : Nat, j ≤ s ∧ i = .int .i64 j ∧ v = .int .u64 ((rotK u j : Nat) : Int)) (fun _ i _ => s - (intOf i).toNat)
    case atStart => exact ⟨0, Nat.zero_le _, rfl, rfl⟩
    case round =>
      obtain ⟨j, hj, rfl, rfl⟩ := hrel
      by_cases hlt : j < s
      · have hl := rotK_lt u j hu
        have hn := Lib.hid (show rot1 (rotK u j) = rotK u (j + 1) from rfl)
        generalize rotK u j = v at *
        have hw := rot1_walk v hl
        have c := bit_any v 63 (by omega) hl
        generalize v / 2 ^ 63 % 2 = t at *
        go_wp2_with (go_at_call 40; refine (c _).mono ?_; rintro e w' ⟨rfl, rfl⟩)
        go_round
        case rel => exact ⟨j + 1, by omega, by go_num, by rw [← hn.out]⟩
        case measure => simp [intOf]; omega
      · obtain rfl : j = s := by omega
        rw [H.out]
        go_wp2
        go_ret
        exact ⟨rfl, rfl⟩
theorem refTurn_any (u : Nat) (k : Int) (hu : u < 18446744073709551616) (w : World) :
    Calls Tryd.prog 21 #[.int .u64 u, .int .i64 k] w fun e w' => e = .returned (.int .u64 (turnI u k)) ∧ w = w' := by
  have := tmod64 k
  exact refTurn_core u (k % 64).toNat k _ hu rfl (by omega) (by omega) _ (Lib.hid rfl) w

/-! ### Count -/
theorem pc_mod_succ (u j : Nat) : pc (u % 2 ^ (j + 1)) = pc (u % 2 ^ j) + u / 2 ^ j % 2 := by
  have p : 0 < 2 ^ j := Nat.two_pow_pos j
  have e : u % 2 ^ (j + 1) = u / 2 ^ j % 2 * 2 ^ j + u % 2 ^ j := by
    rw [Nat.pow_succ, Nat.mod_mul, Nat.mul_comm (2 ^ j)]; omega
  rw [e, pc_parts j _ _ (Nat.mod_lt _ p)]
  have : u / 2 ^ j % 2 = 0 ∨ u / 2 ^ j % 2 = 1 := by omega
  rcases this with h | h <;> rw [h]
  · rw [pc_zero]; omega
  · have : pc 1 = 1 := by rw [pc_step]; simp [pc_zero]
    omega

set_option maxHeartbeats 1000000 in
theorem refCount_core (u q : Nat) (hu : u < 18446744073709551616) (H : Hid (pc u = q)) (w : World) :
    Calls Tryd.prog 23 #[.int .u64 u] w fun e w' => e = .returned (.int .i64 (q : Int)) ∧ w = w' := by
  go_enter Tryd.func23, Tryd.ntmps23
  go_wp2
  go_loop [3, 4] (fun n i => ∃ j : Nat, j ≤ 64 ∧ i = .int .i64 j ∧ n = .int .i64 ((pc (u % 2 ^ j) : Nat) : Int)) (fun _ i => 64 - (intOf i).toNat)
  case atStart => exact ⟨0, Nat.zero_le _, rfl, by simp [Nat.mod_one, pc_zero]⟩
  case round =>
    obtain ⟨j, hj, rfl, rfl⟩ := hrel
    by_cases hlt : j < 64
    · have hl := pc_le j (u % 2 ^ j) (Nat.mod_lt _ (Nat.two_pow_pos j))
      have hn := Lib.hid (pc_mod_succ u j)
      have c := bit_any u j hj hu
      have ht : u / 2 ^ j % 2 < 2 := Nat.mod_lt _ (by decide)
      generalize pc (u % 2 ^ j) = p at *
      generalize u / 2 ^ j % 2 = t at *
      go_wp2_with (go_at_call 40; refine (c _).mono ?_; rintro e w' ⟨rfl, rfl⟩)
      go_round
      case rel => exact ⟨j + 1, by omega, by go_num, by rw [hn.out]; go_num⟩
      case measure => simp [intOf]; omega
    · obtain rfl : j = 64 := by omega
      rw [Nat.mod_eq_of_lt hu, H.out]
      go_wp2
      go_ret
      exact ⟨rfl, rfl⟩
theorem refCount_any (u : Nat) (hu : u < 18446744073709551616) (w : World) :
    Calls Tryd.prog 23 #[.int .u64 u] w fun e w' => e = .returned (.int .i64 (pc u)) ∧ w = w' := refCount_core u _ hu (Lib.hid rfl) w

/-! ### Low -/
theorem low_hit (u j : Nat) (hu : u < 18446744073709551616) (h0 : u % 2 ^ j = 0) (h1 : u / 2 ^ j % 2 = 1) : Lib.ctz 64 u = j := by
  apply ctz_unique u j (u / 2 ^ j / 2) ?_ hu
  have e := Nat.div_add_mod u (2 ^ j)
  rw [h0, Nat.add_zero] at e
  rw [show 2 * (u / 2 ^ j / 2) + 1 = u / 2 ^ j by omega]
  exact e.symm
theorem low_miss (u j : Nat) (h0 : u % 2 ^ j = 0) (h1 : u / 2 ^ j % 2 ≠ 1) : u % 2 ^ (j + 1) = 0 := by
  rw [Nat.pow_succ, Nat.mod_mul, h0, show u / 2 ^ j % 2 = 0 by omega]; rfl

set_option maxHeartbeats 1000000 in
theorem refLow_core (u q : Nat) (hu : u < 18446744073709551616) (H : Hid (Lib.ctz 64 u = q)) (w : World) :
    Calls Tryd.prog 25 #[.int .u64 u] w fun e w' => e = .returned (.int .i64 (q : Int)) ∧ w = w' := by
  go_enter Tryd.func25, Tryd.ntmps25
  go_wp2
  go_loop [3] (fun i => ∃ j : Nat, j ≤ 64 ∧ i = .int .i64 j ∧ u % 2 ^ j = 0) (fun i => 64 - (intOf i).toNat)
  case atStart => exact ⟨0, Nat.zero_le _, rfl, by simp [Nat.mod_one]⟩
  case round =>
    obtain ⟨j, hj, rfl, hz⟩ := hrel
    have HZ := Lib.hid hz
    clear hz
    by_cases hlt : j < 64
    · have c := bit_any u j hj hu
      have hh := Lib.hid (low_hit u j hu HZ.out)
      have hm := Lib.hid (low_miss u j HZ.out)
      generalize u / 2 ^ j % 2 = t at *
      by_cases h1 : t = 1
      · subst h1
        have HJ := Lib.hid (hh.out rfl)
        clear hh hm
        go_wp2_with (go_at_call 40; refine (c _).mono ?_; rintro e w' ⟨rfl, rfl⟩)
        go_ret
        exact ⟨ret_int (by rw [← H.out, HJ.out]), rfl⟩
      · have HM := Lib.hid (hm.out h1)
        have hb : ((t : Int) == 1) = false := by simp; omega
        clear hh hm h1
        go_wp2_with (go_at_call 40; refine (c _).mono ?_; rintro e w' ⟨rfl, rfl⟩)
        go_round
        case rel => exact ⟨j + 1, by omega, by go_num, HM.out⟩
        case measure => simp [intOf]; omega
    · obtain rfl : j = 64 := by omega
      have h0 : u = 0 := by have := HZ.out; omega
      have HQ : Hid ((64 : Int) = q) := by
        apply Lib.hid
        have := H.out
        rw [h0] at this
        have e : Lib.ctz 64 0 = 64 := by decide
        omega
      clear h0
      go_wp2
      go_ret
      exact ⟨ret_int HQ.out, rfl⟩
theorem refLow_any (u : Nat) (hu : u < 18446744073709551616) (w : World) :
    Calls Tryd.prog 25 #[.int .u64 u] w fun e w' => e = .returned (.int .i64 (Lib.ctz 64 u)) ∧ w = w' := refLow_core u _ hu (Lib.hid rfl) w
end Go.Proofs.YtafdaeenjjokiaaDoor
