/- The document's own sets (concordatref06): one, Has, Minus, Within, Of, List: what each answers, for every input. -/
import Derived.Test.YthmccldkknhejaaDoorPk
namespace Go.Proofs.YthmccldkknhejaaDoor
open Go.RowKit Go.Deep
set_option linter.unusedVariables false

set_option maxRecDepth 100000 in
set_option maxHeartbeats 1000000 in
theorem ref_one (c u : Nat) (h : c < 64) (hu : 2 ^ c = u) (w : World) : Calls Tryd.prog 34 #[.int .i64 c] w fun e w' => e = .returned (.int .u64 u) ∧ w = w' := by
  have HU := Lib.hid hu
  clear hu
  go_enter Tryd.func34, Tryd.ntmps34
  go_wp2_with fail
  go_loop [3, 4] (fun x i => ∃ k v : Nat, k ≤ c ∧ i = .int .i64 k ∧ x = .int .u64 v ∧ 2 ^ k = v) (fun _ i => c - (intOf i).toNat)
  case atStart => exact ⟨0, 1, Nat.zero_le _, rfl, rfl, rfl⟩
  case round =>
    obtain ⟨k, v, hk, rfl, rfl, hv⟩ := hrel
    have HV := Lib.hid hv
    by_cases hlt : k < c
    · have hv2 : v * 2 < 18446744073709551616 := by
        have := one_lt (show k + 1 < 64 by omega)
        rw [Nat.pow_succ, hv] at this; exact this
      have hw : IntKind.u64.wrap ((v : Int) * 2) = ((v * 2 : Nat) : Int) := by rw [IntKind.wrap_u64]; omega
      clear hv
      obtain ⟨v2, hv3⟩ : ∃ v2, v * 2 = v2 := ⟨_, rfl⟩
      rw [hv3] at hw
      have HV3 := Lib.hid hv3
      clear hv3
      go_wp2_with fail
      go_round
      case rel => exact ⟨k + 1, v2, by omega, by go_num, rfl, by rw [Nat.pow_succ, HV.out, HV3.out]⟩
      case measure => simp [intOf]; omega
    · obtain rfl : k = c := by omega
      clear hv
      go_wp2_with fail
      go_ret
      have : v = u := by rw [← HV.out, HU.out]
      subst this
      exact ⟨rfl, rfl⟩
theorem bit_quo (s u c : Nat) (hs : s < 18446744073709551616) (h : 2 ^ c = u) : ((IntKind.u64.wrap ((s : Int) / (u : Int))).tmod 2 == 1) = s.testBit c := by
  subst h
  have e1 : (s : Int) / ((2 ^ c : Nat) : Int) = ((s / 2 ^ c : Nat) : Int) := by simp
  have e2 : s / 2 ^ c < 18446744073709551616 := Nat.lt_of_le_of_lt (Nat.div_le_self _ _) hs
  rw [e1, wrap_nat _ e2, Nat.testBit_eq_decide_div_mod_eq]
  have e3 : ((s / 2 ^ c : Nat) : Int).tmod 2 = ((s / 2 ^ c % 2 : Nat) : Int) := by
    rw [Int.tmod_eq_emod_of_nonneg (Int.natCast_nonneg _)]; simp
  rw [e3]
  by_cases hx : s / 2 ^ c % 2 = 1
  · simp [hx]
  · have : s / 2 ^ c % 2 = 0 := by omega
    simp [this]
set_option maxRecDepth 100000 in
set_option maxHeartbeats 1000000 in
theorem ref_has (s : Nat) (c : Int) (o : Bool) (hs : s < 18446744073709551616) (ho : hasN s c = o) (w : World) : Calls Tryd.prog 19 #[.int .u64 s, .int .i64 c] w fun e w' => e = .returned (.bool o) ∧ w = w' := by
  by_cases h : isCat c = true
  · obtain ⟨k, rfl, hk⟩ := isCat_nat h
    obtain ⟨u, hu⟩ : ∃ u, 2 ^ k = u := ⟨_, rfl⟩
    have c1 := ref_one k u hk hu
    have hb := bit_quo s u k hs hu
    have hu1 : 1 ≤ u := by rw [← hu]; exact Nat.one_le_two_pow
    have hu2 : u < 18446744073709551616 := by rw [← hu]; exact one_lt hk
    have ho2 : s.testBit k = o := by rw [← ho]; unfold hasN; rw [h]; simp
    rw [ho2] at hb
    clear ho h hu ho2
    go_enter Tryd.func19, Tryd.ntmps19
    go_wp2_with fail
    refine (c1 _).mono ?_
    rintro e w' ⟨rfl, rfl⟩
    go_wp2_with fail
    go_ret
    exact ⟨rfl, rfl⟩
  · have hf : isCat c = false := by simpa using h
    have : o = false := by rw [← ho]; unfold hasN; rw [hf]; rfl
    subst this
    have key : c < 0 ∨ (0 ≤ c ∧ 63 < c) := by simp [isCat] at hf; omega
    clear ho h hf
    rcases key with h | ⟨h, h2⟩
    all_goals
      go_enter Tryd.func19, Tryd.ntmps19
      go_wp2_with fail
      go_ret
      exact ⟨rfl, rfl⟩

/-! ### Minus, Within -/
/-- What of the first set isn't in the second one, below a place. -/
def minusTo (a b k : Nat) : Nat := setOf ((List.range k).filter fun i => a.testBit i && !b.testBit i)
theorem minusTo_succ (a b k : Nat) : minusTo a b (k + 1) = if a.testBit k && !b.testBit k then minusTo a b k ||| 2 ^ k else minusTo a b k := by
  unfold minusTo
  rw [List.range_succ, List.filter_append]
  cases h : (a.testBit k && !b.testBit k) <;> simp [h, setOf]
theorem minusTo_lt (a b k : Nat) (hk : k ≤ 64) : minusTo a b k < 18446744073709551616 := setOf_lt _ (fun c hc => by have := List.mem_range.1 (List.mem_filter.1 hc).1; omega)
theorem minusTo_all {a b : Nat} (ha : a < 18446744073709551616) (hb : b < 18446744073709551616) : minusTo a b 64 = minus a b := by
  refine set_ext (minusTo_lt a b 64 (Nat.le_refl _)) (minus_lt ha) fun i hi => ?_
  unfold minusTo
  rw [bit_setOf, bit_minus ha hb]
  simp [hi]
/-- A category that isn't there comes in by a sum. -/
theorem add_one {u c : Nat} (hu : u < 18446744073709551616) (hc : c < 64) (h : u.testBit c = false) : u + 2 ^ c = u ||| 2 ^ c := by
  have h2 := one_lt hc
  have key := BitVec.add_eq_or_of_and_eq_zero (BitVec.ofNat 66 u) (BitVec.ofNat 66 (2 ^ c)) (by
    apply BitVec.eq_of_toNat_eq
    rw [BitVec.toNat_and, BitVec.toNat_ofNat, BitVec.toNat_ofNat, Nat.mod_eq_of_lt (by omega), Nat.mod_eq_of_lt (by omega)]
    show u &&& 2 ^ c = 0
    apply Nat.eq_of_testBit_eq
    intro i
    rw [Nat.testBit_and, bit_one]
    by_cases hi : c = i
    · subst hi; simp [h]
    · simp [hi])
  have := congrArg BitVec.toNat key
  rw [BitVec.toNat_add, BitVec.toNat_or, BitVec.toNat_ofNat, BitVec.toNat_ofNat, Nat.mod_eq_of_lt (show u < 2 ^ 66 by omega), Nat.mod_eq_of_lt (show 2 ^ c < 2 ^ 66 by omega), Nat.mod_eq_of_lt (by omega)] at this
  exact this
theorem minusTo_bit (a b k i : Nat) (h : k ≤ i) : (minusTo a b k).testBit i = false := by
  unfold minusTo
  rw [bit_setOf]; simp; omega
end Go.Proofs.YthmccldkknhejaaDoor
