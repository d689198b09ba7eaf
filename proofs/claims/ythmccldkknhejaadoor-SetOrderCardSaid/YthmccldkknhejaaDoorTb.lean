/- SetOrder's walk. -/
import Derived.Test.YthmccldkknhejaaDoorQg
namespace Go.Proofs.YthmccldkknhejaaDoor
open Go.RowKit Go.Deep
set_option linter.unusedVariables false

theorem within_self {a : Nat} (ha : a < 18446744073709551616) : within a a = true := by
  unfold within; rw [decide_eq_true_iff, minus_zero ha ha]; exact fun _ h => h
theorem within_iff {a b : Nat} (ha : a < 18446744073709551616) (hb : b < 18446744073709551616) : within a b = true ↔ ∀ i, a.testBit i = true → b.testBit i = true := by
  unfold within; rw [decide_eq_true_iff, minus_zero ha hb]
theorem within_anti {a b : Nat} (ha : a < 18446744073709551616) (hb : b < 18446744073709551616) (h : within a b = true) (k : within b a = true) : a = b := by
  rw [within_iff ha hb] at h
  rw [within_iff hb ha] at k
  refine set_ext ha hb fun i _ => ?_
  cases e : a.testBit i with
  | true => rw [h i e]
  | false => cases e' : b.testBit i with
    | false => rfl
    | true => rw [k i e'] at e; cases e
theorem within_trans {a b c : Nat} (ha : a < 18446744073709551616) (hb : b < 18446744073709551616) (hc : c < 18446744073709551616) (h : within a b = true) (k : within b c = true) : within a c = true := by
  rw [within_iff ha hb] at h
  rw [within_iff hb hc] at k
  exact (within_iff ha hc).2 fun i hi => k i (h i hi)
theorem within_minus {a b : Nat} (ha : a < 18446744073709551616) (hb : b < 18446744073709551616) : within (minus a b) a = true :=
  (within_iff (minus_lt ha) ha).2 fun i hi => by rw [bit_minus ha hb] at hi; exact (Bool.and_eq_true_iff.1 hi).1
theorem minus_twice {a b : Nat} (ha : a < 18446744073709551616) (hb : b < 18446744073709551616) : minus (minus a b) b = minus a b :=
  set_ext (minus_lt (minus_lt ha)) (minus_lt ha) fun i _ => by
    rw [bit_minus (minus_lt ha) hb, bit_minus ha hb]; cases a.testBit i <;> cases b.testBit i <;> rfl
theorem within_or {a b : Nat} (ha : a < 18446744073709551616) (hb : b < 18446744073709551616) : within a (minus a b ||| b) = true :=
  (within_iff ha (or_lt (minus_lt ha) hb)).2 fun i hi => by rw [Nat.testBit_or, bit_minus ha hb, hi]; cases b.testBit i <;> rfl
theorem within_zero (a b : Nat) : within a b = ((minus a b : Int) == 0) := by
  unfold within
  by_cases h : minus a b = 0
  · simp [h]
  · simp [h]
set_option maxRecDepth 100000 in
set_option maxHeartbeats 2000000 in
theorem setOrder_walk (a b c : Nat) (ha : a < 18446744073709551616) (hb : b < 18446744073709551616) (hc : c < 18446744073709551616) (w : World) (hG : Gnd w) :
    Calls Tryd.prog 5 #[.int .u64 a, .int .u64 b, .int .u64 c] w fun e w' => e = .returned (.bool true) ∧ Below w.heap.size w w' := by
  have hA := alive_any w hG
  have cAA := within_any a a true ha ha (within_self ha)
  obtain ⟨ab, hab⟩ : ∃ o, within a b = o := ⟨_, rfl⟩
  obtain ⟨ba, hba⟩ : ∃ o, within b a = o := ⟨_, rfl⟩
  obtain ⟨bc, hbc⟩ : ∃ o, within b c = o := ⟨_, rfl⟩
  obtain ⟨ac, hac⟩ : ∃ o, within a c = o := ⟨_, rfl⟩
  have cAB := within_any a b ab ha hb hab
  have cBA := within_any b a ba hb ha hba
  have cBC := within_any b c bc hb hc hbc
  have cAC := within_any a c ac ha hc hac
  obtain ⟨m, hm⟩ : ∃ m, minus a b = m := ⟨_, rfl⟩
  have hml : m < 18446744073709551616 := by rw [← hm]; exact minus_lt ha
  have cM := minus_any a b m ha hb hm
  have cMA := within_any m a true hml ha (by rw [← hm]; exact within_minus ha hb)
  have cMB := minus_any m b m hml hb (by rw [← hm]; exact minus_twice ha hb)
  obtain ⟨mo, hmo⟩ : ∃ x, m ||| b = x := ⟨_, rfl⟩
  have hmol : mo < 18446744073709551616 := by rw [← hmo]; exact or_lt hml hb
  have cAO := within_any a mo true ha hmol (by rw [← hmo, ← hm]; exact within_or ha hb)
  obtain ⟨n, hn⟩ : ∃ x, a &&& b = x := ⟨_, rfl⟩
  have hnl : n < 18446744073709551616 := by rw [← hn]; exact Nat.lt_of_le_of_lt Nat.and_le_left ha
  have eor : bits .or .u64 (m : Int) (b : Int) = (mo : Int) := by rw [← hmo]; exact bits_or_u64_nat m b hml hb
  have eand : bits .and .u64 (a : Int) (b : Int) = (n : Int) := by rw [← hn]; exact bits_and_u64_nat a b ha hb
  have ez : ab = ((m : Int) == 0) := by rw [← hab, ← hm]; exact within_zero a b
  have hlen := cats_split ha hb
  rw [hm, hn] at hlen
  have hl1 := cats_length_le m
  have hl2 := cats_length_le n
  have cLM := fun W hW => list_any m hml W hW
  have cLN := fun W hW => list_any n hnl W hW
  have cLA := fun W hW => list_any a ha W hW
  have hanti : ab = true → ba = true → ((a : Int) != (b : Int)) = false := fun h k => by
    have := within_anti ha hb (hab.trans h) (hba.trans k); subst this; simp
  have htr : (ab && bc && !ac) = false := by
    cases h : ab with
    | false => rfl
    | true => cases k : bc with
      | false => rfl
      | true => rw [← hac, within_trans ha hb hc (hab.trans h) (hbc.trans k)]; rfl
  generalize cats m = lm at *
  generalize cats n = ln at *
  generalize cats a = la at *
  obtain ⟨l1, e1⟩ : ∃ x, lm.length = x := ⟨_, rfl⟩
  obtain ⟨l2, e2⟩ : ∃ x, ln.length = x := ⟨_, rfl⟩
  obtain ⟨l3, e3⟩ : ∃ x, la.length = x := ⟨_, rfl⟩
  rw [e1] at hlen hl1
  rw [e2] at hlen hl2
  rw [e3] at hlen
  have hwl : IntKind.i64.wrap ((l1 : Int) + (l2 : Int)) = (l3 : Int) := by rw [IntKind.wrap_i64]; omega
  have E1 := Lib.hid e1
  have E2 := Lib.hid e2
  have E3 := Lib.hid e3
  have EZ := Lib.hid ez
  have HA := Lib.hid hanti
  have HT := Lib.hid htr
  clear hab hba hbc hac hm hmo hn hlen hl1 hl2 e1 e2 e3 ez hanti htr
  go_enter Tryd.func5, Tryd.ntmps5
  go_wp2_with fail
  refine hA.mono ?_
  rintro e w1 ⟨rfl, hb1⟩
  have hG1 := hG.below hb1
  go_wp2_with fail
  refine (cAA _).mono ?_
  rintro e _ ⟨rfl, rfl⟩
  cases ab with
  | false =>
    have hz : ((m : Int) == 0) = false := EZ.out.symm
    clear EZ HA HT
    go_wp2_with fail
    refine (cAB _).mono ?_
    rintro e _ ⟨rfl, rfl⟩
    go_wp2_with fail
    refine (cAB _).mono ?_
    rintro e _ ⟨rfl, rfl⟩
    go_wp2_with fail
    refine (cM _).mono ?_
    rintro e _ ⟨rfl, rfl⟩
    go_wp2_with fail
    refine (cMA _).mono ?_
    rintro e _ ⟨rfl, rfl⟩
    go_wp2_with fail
    refine (cMB _).mono ?_
    rintro e _ ⟨rfl, rfl⟩
    go_wp2_with fail
    refine (cAO _).mono ?_
    rintro e _ ⟨rfl, rfl⟩
    go_wp2_with fail
    refine (cAB _).mono ?_
    rintro e _ ⟨rfl, rfl⟩
    go_wp2_with fail
    refine (cLM _ hG1).mono ?_
    rintro e w2 ⟨v, rfl, hown, hb⟩
    obtain ⟨A, c1, rfl, _⟩ := ownsI_ints hown
    rw [E1.out]
    have hb2 := below_more hb1 hb (Nat.le_refl _)
    clear hown hb
    go_wp2_with fail
    refine (cLN _ (hG.below hb2)).mono ?_
    rintro e w3 ⟨v, rfl, hown, hb⟩
    obtain ⟨A', c2, rfl, _⟩ := ownsI_ints hown
    rw [E2.out]
    have hb3 := below_more hb2 hb (Nat.le_refl _)
    clear hown hb
    go_wp2_with fail
    refine (cLA _ (hG.below hb3)).mono ?_
    rintro e w4 ⟨v, rfl, hown, hb⟩
    obtain ⟨A'', c3, rfl, _⟩ := ownsI_ints hown
    rw [E3.out]
    have hb4 := below_more hb3 hb (Nat.le_refl _)
    clear hown hb
    go_wp2_with fail
    go_ret
    exact ⟨rfl, hb4⟩
  | true =>
    have hz : ((m : Int) == 0) = true := EZ.out.symm
    cases bc with
    | false =>
      clear EZ HT
      cases ba with
      | false =>
        clear HA
        go_wp2_with fail
        refine (cAB _).mono ?_
        rintro e _ ⟨rfl, rfl⟩
        go_wp2_with fail
        refine (cBA _).mono ?_
        rintro e _ ⟨rfl, rfl⟩
        go_wp2_with fail
        refine (cAB _).mono ?_
        rintro e _ ⟨rfl, rfl⟩
        go_wp2_with fail
        refine (cBC _).mono ?_
        rintro e _ ⟨rfl, rfl⟩
        go_wp2_with fail
        refine (cM _).mono ?_
        rintro e _ ⟨rfl, rfl⟩
        go_wp2_with fail
        refine (cMA _).mono ?_
        rintro e _ ⟨rfl, rfl⟩
        go_wp2_with fail
        refine (cMB _).mono ?_
        rintro e _ ⟨rfl, rfl⟩
        go_wp2_with fail
        refine (cAO _).mono ?_
        rintro e _ ⟨rfl, rfl⟩
        go_wp2_with fail
        refine (cAB _).mono ?_
        rintro e _ ⟨rfl, rfl⟩
        go_wp2_with fail
        refine (cLM _ hG1).mono ?_
        rintro e w2 ⟨v, rfl, hown, hb⟩
        obtain ⟨A, c1, rfl, _⟩ := ownsI_ints hown
        rw [E1.out]
        have hb2 := below_more hb1 hb (Nat.le_refl _)
        clear hown hb
        go_wp2_with fail
        refine (cLN _ (hG.below hb2)).mono ?_
        rintro e w3 ⟨v, rfl, hown, hb⟩
        obtain ⟨A', c2, rfl, _⟩ := ownsI_ints hown
        rw [E2.out]
        have hb3 := below_more hb2 hb (Nat.le_refl _)
        clear hown hb
        go_wp2_with fail
        refine (cLA _ (hG.below hb3)).mono ?_
        rintro e w4 ⟨v, rfl, hown, hb⟩
        obtain ⟨A'', c3, rfl, _⟩ := ownsI_ints hown
        rw [E3.out]
        have hb4 := below_more hb3 hb (Nat.le_refl _)
        clear hown hb
        go_wp2_with fail
        go_ret
        exact ⟨rfl, hb4⟩
      | true =>
        have hne := HA.out rfl rfl
        clear HA
        go_wp2_with fail
        refine (cAB _).mono ?_
        rintro e _ ⟨rfl, rfl⟩
        go_wp2_with fail
        refine (cBA _).mono ?_
        rintro e _ ⟨rfl, rfl⟩
        go_wp2_with fail
        refine (cAB _).mono ?_
        rintro e _ ⟨rfl, rfl⟩
        go_wp2_with fail
        refine (cBC _).mono ?_
        rintro e _ ⟨rfl, rfl⟩
        go_wp2_with fail
        refine (cM _).mono ?_
        rintro e _ ⟨rfl, rfl⟩
        go_wp2_with fail
        refine (cMA _).mono ?_
        rintro e _ ⟨rfl, rfl⟩
        go_wp2_with fail
        refine (cMB _).mono ?_
        rintro e _ ⟨rfl, rfl⟩
        go_wp2_with fail
        refine (cAO _).mono ?_
        rintro e _ ⟨rfl, rfl⟩
        go_wp2_with fail
        refine (cAB _).mono ?_
        rintro e _ ⟨rfl, rfl⟩
        go_wp2_with fail
        refine (cLM _ hG1).mono ?_
        rintro e w2 ⟨v, rfl, hown, hb⟩
        obtain ⟨A, c1, rfl, _⟩ := ownsI_ints hown
        rw [E1.out]
        have hb2 := below_more hb1 hb (Nat.le_refl _)
        clear hown hb
        go_wp2_with fail
        refine (cLN _ (hG.below hb2)).mono ?_
        rintro e w3 ⟨v, rfl, hown, hb⟩
        obtain ⟨A', c2, rfl, _⟩ := ownsI_ints hown
        rw [E2.out]
        have hb3 := below_more hb2 hb (Nat.le_refl _)
        clear hown hb
        go_wp2_with fail
        refine (cLA _ (hG.below hb3)).mono ?_
        rintro e w4 ⟨v, rfl, hown, hb⟩
        obtain ⟨A'', c3, rfl, _⟩ := ownsI_ints hown
        rw [E3.out]
        have hb4 := below_more hb3 hb (Nat.le_refl _)
        clear hown hb
        go_wp2_with fail
        go_ret
        exact ⟨rfl, hb4⟩
    | true =>
      cases ac with
      | false => have := HT.out; cases this
      | true =>
        clear EZ HT
        cases ba with
        | false =>
          clear HA
          go_wp2_with fail
          refine (cAB _).mono ?_
          rintro e _ ⟨rfl, rfl⟩
          go_wp2_with fail
          refine (cBA _).mono ?_
          rintro e _ ⟨rfl, rfl⟩
          go_wp2_with fail
          refine (cAB _).mono ?_
          rintro e _ ⟨rfl, rfl⟩
          go_wp2_with fail
          refine (cBC _).mono ?_
          rintro e _ ⟨rfl, rfl⟩
          go_wp2_with fail
          refine (cAC _).mono ?_
          rintro e _ ⟨rfl, rfl⟩
          go_wp2_with fail
          refine (cM _).mono ?_
          rintro e _ ⟨rfl, rfl⟩
          go_wp2_with fail
          refine (cMA _).mono ?_
          rintro e _ ⟨rfl, rfl⟩
          go_wp2_with fail
          refine (cMB _).mono ?_
          rintro e _ ⟨rfl, rfl⟩
          go_wp2_with fail
          refine (cAO _).mono ?_
          rintro e _ ⟨rfl, rfl⟩
          go_wp2_with fail
          refine (cAB _).mono ?_
          rintro e _ ⟨rfl, rfl⟩
          go_wp2_with fail
          refine (cLM _ hG1).mono ?_
          rintro e w2 ⟨v, rfl, hown, hb⟩
          obtain ⟨A, c1, rfl, _⟩ := ownsI_ints hown
          rw [E1.out]
          have hb2 := below_more hb1 hb (Nat.le_refl _)
          clear hown hb
          go_wp2_with fail
          refine (cLN _ (hG.below hb2)).mono ?_
          rintro e w3 ⟨v, rfl, hown, hb⟩
          obtain ⟨A', c2, rfl, _⟩ := ownsI_ints hown
          rw [E2.out]
          have hb3 := below_more hb2 hb (Nat.le_refl _)
          clear hown hb
          go_wp2_with fail
          refine (cLA _ (hG.below hb3)).mono ?_
          rintro e w4 ⟨v, rfl, hown, hb⟩
          obtain ⟨A'', c3, rfl, _⟩ := ownsI_ints hown
          rw [E3.out]
          have hb4 := below_more hb3 hb (Nat.le_refl _)
          clear hown hb
          go_wp2_with fail
          go_ret
          exact ⟨rfl, hb4⟩
        | true =>
          have hne := HA.out rfl rfl
          clear HA
          go_wp2_with fail
          refine (cAB _).mono ?_
          rintro e _ ⟨rfl, rfl⟩
          go_wp2_with fail
          refine (cBA _).mono ?_
          rintro e _ ⟨rfl, rfl⟩
          go_wp2_with fail
          refine (cAB _).mono ?_
          rintro e _ ⟨rfl, rfl⟩
          go_wp2_with fail
          refine (cBC _).mono ?_
          rintro e _ ⟨rfl, rfl⟩
          go_wp2_with fail
          refine (cAC _).mono ?_
          rintro e _ ⟨rfl, rfl⟩
          go_wp2_with fail
          refine (cM _).mono ?_
          rintro e _ ⟨rfl, rfl⟩
          go_wp2_with fail
          refine (cMA _).mono ?_
          rintro e _ ⟨rfl, rfl⟩
          go_wp2_with fail
          refine (cMB _).mono ?_
          rintro e _ ⟨rfl, rfl⟩
          go_wp2_with fail
          refine (cAO _).mono ?_
          rintro e _ ⟨rfl, rfl⟩
          go_wp2_with fail
          refine (cAB _).mono ?_
          rintro e _ ⟨rfl, rfl⟩
          go_wp2_with fail
          refine (cLM _ hG1).mono ?_
          rintro e w2 ⟨v, rfl, hown, hb⟩
          obtain ⟨A, c1, rfl, _⟩ := ownsI_ints hown
          rw [E1.out]
          have hb2 := below_more hb1 hb (Nat.le_refl _)
          clear hown hb
          go_wp2_with fail
          refine (cLN _ (hG.below hb2)).mono ?_
          rintro e w3 ⟨v, rfl, hown, hb⟩
          obtain ⟨A', c2, rfl, _⟩ := ownsI_ints hown
          rw [E2.out]
          have hb3 := below_more hb2 hb (Nat.le_refl _)
          clear hown hb
          go_wp2_with fail
          refine (cLA _ (hG.below hb3)).mono ?_
          rintro e w4 ⟨v, rfl, hown, hb⟩
          obtain ⟨A'', c3, rfl, _⟩ := ownsI_ints hown
          rw [E3.out]
          have hb4 := below_more hb3 hb (Nat.le_refl _)
          clear hown hb
          go_wp2_with fail
          go_ret
          exact ⟨rfl, hb4⟩
end Go.Proofs.YthmccldkknhejaaDoor
