/- The walks of the statements WordZigs, WordTurns, WordCounts: each returns true, for every input. -/
import Derived.Test.YtafdaeenjjokiaaDoorLa
import Derived.Test.YtafdaeenjjokiaaDoorMathb
namespace Go.Proofs.YtafdaeenjjokiaaDoor
open Go.RowKit

/-! ### WordZigs -/
theorem zig_nonneg (n : Int) : 0 ≤ zigI n := by unfold zigI; split <;> omega
theorem zig_lt (n : Int) (h1 : -9223372036854775808 ≤ n) (h2 : n ≤ 9223372036854775807) : zigI n < 18446744073709551616 := by unfold zigI; split <;> omega
theorem zag_bounds (u : Nat) (h : u < 18446744073709551616) : -9223372036854775808 ≤ zagI u ∧ zagI u < 9223372036854775808 := by unfold zagI; split <;> omega
/-- A number fits just if its word has no higher bits. -/
theorem zig_fits (n : Int) (b : Nat) (h : 1 ≤ b) : (cutI n b == n) = (zigI n / 2 ^ b == 0) := by
  have e := two_split b h
  have p := two_pos (b - 1)
  have hb := cut_bounds n b h
  by_cases hf : -2 ^ (b - 1) ≤ n ∧ n < 2 ^ (b - 1)
  · rw [cut_self n b h hf.1 hf.2]
    have : zigI n / 2 ^ b = 0 := by
      apply Int.ediv_eq_zero_of_lt (zig_nonneg n)
      rw [e]
      generalize (2 : Int) ^ (b - 1) = H at *
      unfold zigI; split <;> omega
    rw [this]; simp
  · have hne : cutI n b ≠ n := by
      intro he
      rw [he] at hb
      exact hf hb
    have h0 : zigI n / 2 ^ b ≠ 0 := by
      intro h0
      have h1 := Int.emod_add_mul_ediv (zigI n) (2 ^ b)
      have h2 := Int.emod_lt_of_pos (zigI n) (two_pos b)
      rw [h0, Int.mul_zero, Int.add_zero] at h1
      rw [h1, e] at h2
      apply hf
      generalize (2 : Int) ^ (b - 1) = H at *
      unfold zigI at h2
      split at h2 <;> omega
    have a1 : (cutI n b == n) = false := by simpa using hne
    have a2 : (zigI n / 2 ^ b == 0) = false := by simpa using h0
    rw [a1, a2]

set_option maxHeartbeats 1000000 in
theorem wordZigs_any (n : Int) (u : Nat) (k : Int) (b1 : -9223372036854775808 ≤ n ∧ n ≤ 9223372036854775807) (hu : u < 18446744073709551616) (w : World) (hT : Tab w) :
    Calls Tryd.prog 6 #[.int .i64 n, .int .u64 u, .int .i64 k] w fun e w' => e = .returned (.bool true) ∧ Below w.heap.size w w' := by
  have hA := Lib.hid (alive_any w hT)
  have z0 := zig_nonneg n
  have z1 := zig_lt n b1.1 b1.2
  obtain ⟨z, hz⟩ : ∃ z : Nat, zigI n = z := ⟨(zigI n).toNat, by omega⟩
  have c1 : Gives 16 #[.int .i64 n] (.int .u64 z) := fun W => by have := zig_any n b1.1 (by omega) W; rwa [hz] at this
  have c2 : Gives 18 #[.int .u64 z] (.int .i64 n) := fun W => by
    have := zag_any z (by omega) W
    have e := zag_zig n
    rw [hz, Int.toNat_natCast] at e
    rwa [e] at this
  have hy := zag_bounds u hu
  have c3 : Gives 18 #[.int .u64 u] (.int .i64 (zagI u)) := fun W => zag_any u hu W
  have c4 : Gives 16 #[.int .i64 (zagI u)] (.int .u64 u) := fun W => by have := zig_any (zagI u) hy.1 hy.2 W; rwa [zig_zag] at this
  have hnn : (n != n) = false := by simp
  have huu : ((u : Int) != (u : Int)) = false := by simp
  have c5 : 1 ≤ k → k ≤ 63 → Gives 12 #[.int .i64 n, .int .i64 k] (.bool ((z : Int) / 2 ^ k.toNat == 0)) := fun h1 h2 =>
    fits_gives n k h1 (by omega) _ (by rw [zig_fits n k.toNat (by omega), hz])
  clear z0 z1 hz hT hy
  generalize zagI u = y at *
  have key : k < 1 ∨ (1 ≤ k ∧ 63 < k) ∨ (1 ≤ k ∧ k ≤ 63) := by omega
  rcases key with hf | ⟨hf, hf2⟩ | ⟨hf, hf2⟩
  · clear c5
    go_enter Tryd.func6, Tryd.ntmps6
    go_wp2_with fail
    refine hA.out.mono ?_
    clear hA
    rintro e w1 ⟨rfl, hb⟩
    go_wp2_with fail
    refine (c1 w1).mono ?_
    rintro e w' ⟨rfl, rfl⟩
    go_wp2_with fail
    refine (c2 w1).mono ?_
    rintro e w' ⟨rfl, rfl⟩
    go_wp2_with fail
    refine (c3 w1).mono ?_
    rintro e w' ⟨rfl, rfl⟩
    go_wp2_with fail
    refine (c4 w1).mono ?_
    rintro e w' ⟨rfl, rfl⟩
    go_wp2_with fail
    go_ret
    exact ⟨rfl, hb⟩
  · clear c5
    go_enter Tryd.func6, Tryd.ntmps6
    go_wp2_with fail
    refine hA.out.mono ?_
    clear hA
    rintro e w1 ⟨rfl, hb⟩
    go_wp2_with fail
    refine (c1 w1).mono ?_
    rintro e w' ⟨rfl, rfl⟩
    go_wp2_with fail
    refine (c2 w1).mono ?_
    rintro e w' ⟨rfl, rfl⟩
    go_wp2_with fail
    refine (c3 w1).mono ?_
    rintro e w' ⟨rfl, rfl⟩
    go_wp2_with fail
    refine (c4 w1).mono ?_
    rintro e w' ⟨rfl, rfl⟩
    go_wp2_with fail
    go_ret
    exact ⟨rfl, hb⟩
  · have d5 := c5 hf hf2
    clear c5
    generalize hq : (z : Int) / 2 ^ k.toNat = q at d5
    go_enter Tryd.func6, Tryd.ntmps6
    go_wp2_with fail
    refine hA.out.mono ?_
    clear hA
    rintro e w1 ⟨rfl, hb⟩
    go_wp2_with fail
    refine (c1 w1).mono ?_
    rintro e w' ⟨rfl, rfl⟩
    go_wp2_with fail
    refine (c2 w1).mono ?_
    rintro e w' ⟨rfl, rfl⟩
    go_wp2_with fail
    refine (c3 w1).mono ?_
    rintro e w' ⟨rfl, rfl⟩
    go_wp2_with fail
    refine (c4 w1).mono ?_
    rintro e w' ⟨rfl, rfl⟩
    go_wp2_with fail
    refine (d5 w1).mono ?_
    rintro e w' ⟨rfl, rfl⟩
    go_wp2_with fail
    refine (c1 w1).mono ?_
    rintro e w' ⟨rfl, rfl⟩
    go_wp2_with fail
    go_ret
    exact ⟨by simp, hb⟩

/-! ### WordTurns -/
set_option maxHeartbeats 1000000 in
theorem wordTurns_any (u : Nat) (a b : Int) (hu : u < 18446744073709551616) (w : World) (hT : Tab w) :
    Calls Tryd.prog 7 #[.int .u64 u, .int .i64 a, .int .i64 b] w fun e w' => e = .returned (.bool true) ∧ Below w.heap.size w w' := by
  have hA := Lib.hid (alive_any w hT)
  have hx := turn_lt u a hu
  obtain ⟨ra1, ra2, _⟩ := tmod64 a
  obtain ⟨rb1, rb2, _⟩ := tmod64 b
  have c1 : Gives 20 #[.int .u64 u, .int .i64 a] (.int .u64 (turnI u a)) := fun W => turn_any u hu a W
  have c2 : Gives 20 #[.int .u64 (turnI u a), .int .i64 (-(a.tmod 64))] (.int .u64 u) := fun W => by have := turn_any (turnI u a) hx (-(a.tmod 64)) W; rwa [turn_back u a hu] at this
  have c3 : Gives 22 #[.int .u64 (turnI u a)] (.int .i64 (pc u)) := fun W => by have := count_any (turnI u a) hx W; rwa [pc_turn u a hu] at this
  have c4 : Gives 22 #[.int .u64 u] (.int .i64 (pc u)) := fun W => count_any u hu W
  have c5 : Gives 20 #[.int .u64 (turnI u a), .int .i64 b] (.int .u64 (turnI u (a.tmod 64 + b.tmod 64))) := fun W => by have := turn_any (turnI u a) hx b W; rwa [turn_sum u a b hu] at this
  have c6 : Gives 20 #[.int .u64 u, .int .i64 (a.tmod 64 + b.tmod 64)] (.int .u64 (turnI u (a.tmod 64 + b.tmod 64))) := fun W => turn_any u hu _ W
  have hz := ctz_zero_iff u hu
  have c7 := fun (W : World) (hT : Tab W) => low_any u hu W hT
  generalize turnI u (a.tmod 64 + b.tmod 64) = y at *
  generalize turnI u a = x at *
  generalize pc u = p at *
  generalize Lib.ctz 64 u = l at *
  go_enter Tryd.func7, Tryd.ntmps7
  go_wp2_with fail
  refine hA.out.mono ?_
  clear hA
  rintro e w1 ⟨rfl, hb⟩
  have hT1 := Lib.hid (hT.below hb hT.lt)
  clear hT
  go_wp2_with fail
  refine (c1 w1).mono ?_
  rintro e w' ⟨rfl, rfl⟩
  go_wp2_with fail
  refine (c2 w1).mono ?_
  rintro e w' ⟨rfl, rfl⟩
  go_wp2_with fail
  refine (c3 w1).mono ?_
  rintro e w' ⟨rfl, rfl⟩
  go_wp2_with fail
  refine (c4 w1).mono ?_
  rintro e w' ⟨rfl, rfl⟩
  go_wp2_with fail
  refine (c5 w1).mono ?_
  rintro e w' ⟨rfl, rfl⟩
  go_wp2_with fail
  refine (c6 w1).mono ?_
  rintro e w' ⟨rfl, rfl⟩
  go_wp2_with fail
  refine (c7 w1 hT1.out).mono ?_
  rintro e w' ⟨rfl, rfl⟩
  go_wp2
  go_ret
  exact ⟨rfl, hb⟩

/-! ### WordCounts -/
theorem shl_back (u k : Nat) (hu : u < 18446744073709551616) : IntKind.u64.wrap ((u : Int) / 2 ^ k * 2 ^ k) = ((u / 2 ^ k * 2 ^ k : Nat) : Int) := by
  have h := Nat.div_mul_le_self u (2 ^ k)
  have e : (u : Int) / 2 ^ k * 2 ^ k = ((u / 2 ^ k * 2 ^ k : Nat) : Int) := by simp
  rw [e, IntKind.wrap_u64]
  omega
theorem one_shl (j : Nat) (h : j < 64) : IntKind.u64.wrap ((2 : Int) ^ j) = ((2 ^ j : Nat) : Int) := by
  have : 2 ^ j ≤ 2 ^ 63 := Nat.pow_le_pow_right (by decide) (by omega)
  have e : (2 : Int) ^ j = ((2 ^ j : Nat) : Int) := by simp
  rw [e, IntKind.wrap_u64]
  generalize 2 ^ j = x at *
  omega

set_option maxHeartbeats 1000000 in
theorem wordCounts_out (u : Nat) (k : Int) (h : k < 0 ∨ 63 < k) (w : World) (hT : Tab w) :
    Calls Tryd.prog 10 #[.int .u64 u, .int .i64 k] w fun e w' => e = .returned (.bool true) ∧ Below w.heap.size w w' := by
  have hA := Lib.hid (alive_any w hT)
  have key : k < 0 ∨ (0 ≤ k ∧ 63 < k) := by omega
  clear hT h
  rcases key with h | ⟨h0, h⟩
  all_goals
    go_enter Tryd.func10, Tryd.ntmps10
    go_wp2_with fail
    refine hA.out.mono ?_
    clear hA
    rintro e w1 ⟨rfl, hb⟩
    go_wp2
    go_ret
    exact ⟨rfl, hb⟩

set_option maxHeartbeats 1000000 in
theorem wordCounts_zero (k : Nat) (hk : k ≤ 63) (w : World) (hT : Tab w) :
    Calls Tryd.prog 10 #[.int .u64 0, .int .i64 k] w fun e w' => e = .returned (.bool true) ∧ Below w.heap.size w w' := by
  have hA := Lib.hid (alive_any w hT)
  have c1 : Gives 22 #[.int .u64 0] (.int .i64 0) := fun W => by have := count_any 0 (by decide) W; rwa [pc_zero] at this
  have c4 := fun (W : World) (hT : Tab W) => low_any 0 (by decide) W hT
  have hz : Lib.ctz 64 0 = 64 := by decide
  rw [hz] at c4
  clear hz
  have hx : bits BinOp.xor IntKind.u64 0 0 = 0 := by decide
  go_enter Tryd.func10, Tryd.ntmps10
  go_wp2_with fail
  refine hA.out.mono ?_
  clear hA
  rintro e w1 ⟨rfl, hb⟩
  have hT1 := Lib.hid (hT.below hb hT.lt)
  clear hT
  go_wp2_with fail
  refine (c1 w1).mono ?_
  rintro e w' ⟨rfl, rfl⟩
  go_wp2_with fail
  refine (c1 w1).mono ?_
  rintro e w' ⟨rfl, rfl⟩
  go_wp2_with fail
  refine (c1 w1).mono ?_
  rintro e w' ⟨rfl, rfl⟩
  go_wp2_with fail
  refine (c4 w1 hT1.out).mono ?_
  rintro e w' ⟨rfl, rfl⟩
  go_wp2_with fail
  refine (c1 w1).mono ?_
  rintro e w' ⟨rfl, rfl⟩
  go_wp2
  go_ret
  exact ⟨rfl, hb⟩

set_option maxHeartbeats 1000000 in
theorem wordCounts_in (u : Nat) (k : Nat) (hu : u < 18446744073709551616) (h0 : u ≠ 0) (hk : k ≤ 63) (w : World) (hT : Tab w) :
    Calls Tryd.prog 10 #[.int .u64 u, .int .i64 k] w fun e w' => e = .returned (.bool true) ∧ Below w.heap.size w w' := by
  have hA := Lib.hid (alive_any w hT)
  have hh := shl_back u k hu
  have hle := Nat.div_mul_le_self u (2 ^ k)
  have hx := bits_xor_u64_nat u (u / 2 ^ k * 2 ^ k) hu (by omega)
  rw [high_low u k] at hx
  have hp := pc_high_low u k
  have hlow : u % 2 ^ k ≤ u := Nat.mod_le _ _
  have c1 : Gives 22 #[.int .u64 ((u / 2 ^ k * 2 ^ k : Nat) : Int)] (.int .i64 (pc (u / 2 ^ k * 2 ^ k))) := fun W => count_any _ (by omega) W
  have c2 : Gives 22 #[.int .u64 ((u % 2 ^ k : Nat) : Int)] (.int .i64 (pc (u % 2 ^ k))) := fun W => count_any _ (by omega) W
  have c3 : Gives 22 #[.int .u64 u] (.int .i64 (pc u)) := fun W => count_any u hu W
  have hl1 := pc_le 64 (u / 2 ^ k * 2 ^ k) (by omega)
  have hl2 := pc_le 64 (u % 2 ^ k) (by omega)
  have c4 := fun (W : World) (hT : Tab W) => low_any u hu W hT
  obtain ⟨hr1, hr2, hr3, hr4⟩ := rest_low u h0 hu
  have hj := one_shl (Lib.ctz 64 u) hr4
  have hpj : 2 ^ Lib.ctz 64 u < 18446744073709551616 := by
    have : 2 ^ Lib.ctz 64 u ≤ 2 ^ 63 := Nat.pow_le_pow_right (by decide) (by omega)
    omega
  have hx2 := bits_xor_u64_nat u (2 ^ Lib.ctz 64 u) hu hpj
  have c5 : Gives 22 #[.int .u64 ((u ^^^ 2 ^ Lib.ctz 64 u : Nat) : Int)] (.int .i64 (pc (u ^^^ 2 ^ Lib.ctz 64 u))) := fun W => count_any _ hr1 W
  have c6 := fun (W : World) (hT : Tab W) => low_any _ hr1 W hT
  have hlu := pc_le 64 u (by omega)
  generalize u ^^^ 2 ^ Lib.ctz 64 u = r at *
  generalize 2 ^ Lib.ctz 64 u = jj at *
  generalize Lib.ctz 64 u = j at *
  generalize Lib.ctz 64 r = j' at *
  generalize pc r = pr at *
  generalize u / 2 ^ k * 2 ^ k = h at *
  generalize u % 2 ^ k = l at *
  generalize pc h = ph at *
  generalize pc l = pl at *
  have hs : ((ph : Int) + (pl : Int) != (pc u : Int)) = false := by rw [← hp]; simp
  have hr5 : ((pr : Int) == (pc u : Int) - 1) = true := by simp; omega
  generalize pc u = pu at *
  have hu0 : ((u : Int) == 0) = false := by simpa using h0
  have hjj : decide ((j : Int) < (j' : Int)) = true := by simp; omega
  have hpu : (1 : Int) ≤ pu := by omega
  clear hp hr2 hle hlow h0
  go_enter Tryd.func10, Tryd.ntmps10
  go_wp2_with fail
  refine hA.out.mono ?_
  clear hA
  rintro e w1 ⟨rfl, hb⟩
  have hT1 := Lib.hid (hT.below hb hT.lt)
  clear hT
  go_wp2_with fail
  refine (c1 w1).mono ?_
  rintro e w' ⟨rfl, rfl⟩
  go_wp2_with fail
  refine (c2 w1).mono ?_
  rintro e w' ⟨rfl, rfl⟩
  go_wp2_with fail
  refine (c3 w1).mono ?_
  rintro e w' ⟨rfl, rfl⟩
  go_wp2_with fail
  refine (c4 w1 hT1.out).mono ?_
  rintro e w' ⟨rfl, rfl⟩
  go_wp2_with fail
  refine (c5 w1).mono ?_
  rintro e w' ⟨rfl, rfl⟩
  go_wp2_with fail
  refine (c3 w1).mono ?_
  rintro e w' ⟨rfl, rfl⟩
  go_wp2_with fail
  refine (c6 w1 hT1.out).mono ?_
  rintro e w' ⟨rfl, rfl⟩
  go_wp2
  go_ret
  exact ⟨rfl, hb⟩

theorem wordCounts_any (u : Nat) (k : Int) (hu : u < 18446744073709551616) (w : World) (hT : Tab w) :
    Calls Tryd.prog 10 #[.int .u64 u, .int .i64 k] w fun e w' => e = .returned (.bool true) ∧ Below w.heap.size w w' := by
  by_cases h : 0 ≤ k ∧ k ≤ 63
  · obtain ⟨m, rfl⟩ : ∃ m : Nat, k = m := ⟨k.toNat, by omega⟩
    by_cases h0 : u = 0
    · subst h0; exact wordCounts_zero m (by omega) w hT
    · exact wordCounts_in u m hu h0 (by omega) w hT
  · exact wordCounts_out u k (by omega) w hT
end Go.Proofs.YtafdaeenjjokiaaDoor
