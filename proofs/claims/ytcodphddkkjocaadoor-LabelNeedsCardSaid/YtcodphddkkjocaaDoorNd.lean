/- LabelNeeds's walk. -/
import Derived.Test.YtcodphddkkjocaaDoorUh
import Derived.Deep.RegionHeld3
namespace Go.Proofs.YtcodphddkkjocaaDoor
open Go.RowKit
set_option linter.unusedVariables false

set_option maxRecDepth 100000 in
set_option maxHeartbeats 4000000 in
theorem labelNeeds_walk (a b c : LabD) (m : Nat) (ha : a.ok) (hb : b.ok) (hc : c.ok) (hm : okW64 m) (w : World) (hG : Gnd7 w) :
    Calls Tryd.prog 5 #[labV a, labV b, labV c, .int .u64 m] w fun e w' => e = .returned (.bool true) ∧ Below w.heap.size w w' := by
  obtain ⟨n, hn⟩ : ∃ n, needN a b = n := ⟨_, rfl⟩
  have hnl : okW64 n := by rw [← hn]; exact need_lt ha hb
  obtain ⟨o, ho⟩ : ∃ o, n ||| m = o := ⟨_, rfl⟩
  have hol : okW64 o := by rw [← ho]; exact or_lt hnl hm
  obtain ⟨d, hd⟩ : ∃ d, minus n m = d := ⟨_, rfl⟩
  obtain ⟨p, hp⟩ : ∃ p, needN a c = p := ⟨_, rfl⟩
  have hpl : okW64 p := by rw [← hp]; exact need_lt ha hc
  obtain ⟨q, hq⟩ : ∃ q, needN b c = q := ⟨_, rfl⟩
  have hql : okW64 q := by rw [← hq]; exact need_lt hb hc
  obtain ⟨s, hs⟩ : ∃ s, n ||| q = s := ⟨_, rfl⟩
  have hsl : okW64 s := by rw [← hs]; exact or_lt hnl hql
  have hOr : bits .or .u64 (n : Int) (m : Int) = (o : Int) := by rw [bits_or_u64_nat n m hnl hm, ho]
  have hAn : bits .andNot .u64 (n : Int) (m : Int) = (d : Int) := by rw [u64_andNot_nat n m hnl hm, ← hd]; rfl
  have hOr2 : bits .or .u64 (n : Int) (q : Int) = (s : Int) := by rw [bits_or_u64_nat n q hnl hql, hs]
  have hAn2 : bits .andNot .u64 (p : Int) (s : Int) = 0 := by
    rw [u64_andNot_nat p s hpl hsl]
    have : p &&& (18446744073709551615 - s) = 0 := by rw [← hp, ← hs, ← hn, ← hq]; exact need_three ha hb hc
    rw [this]; rfl
  have hW : withB a b m = decide (d = 0) := by rw [← hd, ← hn]; rfl
  have hF : flowsB a b = ((n : Int) == 0) := by rw [flows_need ha hb, hn]
  have hnd : n = 0 → d = 0 := fun e => by rw [← hd, e]; unfold minus; exact Nat.zero_and _
  have c0 := need_late a b n ha hb hn
  have c1 := with_late a b n true ha hb hnl (by rw [← hn]; exact need_enough ha hb)
  have c2 := with_late a b o true ha hb hol (by rw [← ho, ← hn]; exact need_more ha hb hm)
  have c3 := flows_late a b _ ha hb hF
  have c4 := with_late a b m _ ha hb hm hW
  have c5 := need_late a c p ha hc hp
  have c6 := need_late b c q hb hc hq
  have kB := three_below w (.cells #[.int .u64 a.s, .int .u64 a.t] 24) (.cells #[.int .u64 b.s, .int .u64 b.t] 24) (.cells #[.int .u64 c.s, .int .u64 c.t] 24)
  have cA := alive7_any _ (hG.below kB)
  have tN := three_new w a b c 24
  clear hn hnl ho hol hd hp hpl hq hql hs hsl ha hb hc hm hG hW hF
  obtain ⟨x1, y1⟩ := a
  obtain ⟨x2, y2⟩ := b
  obtain ⟨x3, y3⟩ := c
  unfold labV
  simp only at *
  obtain ⟨zn, hzn⟩ : ∃ z, ((n : Int) == 0) = z := ⟨_, rfl⟩
  have hzd : (zn = true ∧ d = 0) ∨ (zn = false ∧ d = 0) ∨ (zn = false ∧ d ≠ 0) := by
    cases zn with
    | true => exact .inl ⟨rfl, hnd (by simpa using hzn)⟩
    | false => by_cases h : d = 0
               · exact .inr (.inl ⟨rfl, h⟩)
               · exact .inr (.inr ⟨rfl, h⟩)
  rw [hzn] at c3
  have hzN : ((n : Int) != 0) = !zn := by rw [← hzn]; rfl
  clear hnd
  rcases hzd with ⟨rfl, h0⟩ | ⟨rfl, h0⟩ | ⟨rfl, h0⟩
  all_goals
    first
      | (subst h0; simp only [decide_true] at c4; skip)
      | (rw [decide_eq_false h0] at c4)
    try (have hd1 : ((d : Int) == 0) = false := by simp; omega)
    try (have hd2 : ((d : Int) != 0) = true := by simp; omega)
    go_enter Tryd.func5, Tryd.ntmps5
    go_wp2_with fail
    refine cA.mono ?_
    rintro e W0 ⟨rfl, hbl⟩
    have q0 := tN.later ⟨hbl⟩
    have t0 : ∀ W, Later W0 W → (W.cell? ⟨w.heap.size, 0, none⟩ = some (.int .u64 x1) ∧ W.cell? ⟨w.heap.size, 1, none⟩ = some (.int .u64 y1) ∧ W.cell? ⟨w.heap.size + 1, 0, none⟩ = some (.int .u64 x2) ∧ W.cell? ⟨w.heap.size + 1, 1, none⟩ = some (.int .u64 y2) ∧ W.cell? ⟨w.heap.size + 2, 0, none⟩ = some (.int .u64 x3) ∧ W.cell? ⟨w.heap.size + 2, 1, none⟩ = some (.int .u64 y3)) := fun W hW => have k := q0.later hW; ⟨k.a.c0, k.a.c1, k.b.c0, k.b.c1, k.c.c0, k.c.c1⟩
    have kW := below_more kB hbl (Nat.le_refl _)
    have l0 := Later.refl W0
    obtain ⟨p0, p1, p2, p3, p4, p5⟩ := t0 _ l0
    clear q0 tN kB hbl cA
    go_wp2_with (first
      | (go_at_call 13; (with_reducible refine (c0 _ _ (by assumption)).mono ?_); rintro e w' ⟨rfl, hk⟩; obtain ⟨p0, p1, p2, p3, p4, p5⟩ := t0 _ hk)
      | (go_at_call 14; (with_reducible refine (c1 _ _ (by assumption)).mono ?_); rintro e w' ⟨rfl, hk⟩; obtain ⟨p0, p1, p2, p3, p4, p5⟩ := t0 _ hk)
      | (go_at_call 14; (with_reducible refine (c2 _ _ (by assumption)).mono ?_); rintro e w' ⟨rfl, hk⟩; obtain ⟨p0, p1, p2, p3, p4, p5⟩ := t0 _ hk)
      | (go_at_call 10; (with_reducible refine (c3 _ _ (by assumption)).mono ?_); rintro e w' ⟨rfl, hk⟩; obtain ⟨p0, p1, p2, p3, p4, p5⟩ := t0 _ hk)
      | (go_at_call 14; (with_reducible refine (c4 _ _ (by assumption)).mono ?_); rintro e w' ⟨rfl, hk⟩; obtain ⟨p0, p1, p2, p3, p4, p5⟩ := t0 _ hk)
      | fail)
    have l1 := hk.drew
    go_region_held3 (fun w' => (w'.cell? ⟨w.heap.size, 0, none⟩ = some (.int .u64 x1) ∧ w'.cell? ⟨w.heap.size, 1, none⟩ = some (.int .u64 y1) ∧ w'.cell? ⟨w.heap.size + 1, 0, none⟩ = some (.int .u64 x2) ∧ w'.cell? ⟨w.heap.size + 1, 1, none⟩ = some (.int .u64 y2) ∧ w'.cell? ⟨w.heap.size + 2, 0, none⟩ = some (.int .u64 x3) ∧ w'.cell? ⟨w.heap.size + 2, 1, none⟩ = some (.int .u64 y3))) (first | assumption | exact t0 _ (by assumption)) (first | (rw [if_pos (by rfl)]; go_simp; (first | (go_at_call 13; first | ((with_reducible refine (c0 _ _ (by assumption)).mono ?_); rintro e w' ⟨rfl, hk⟩) | ((with_reducible refine (c5 _ _ (by assumption)).mono ?_); rintro e w' ⟨rfl, hk⟩) | ((with_reducible refine (c6 _ _ (by assumption)).mono ?_); rintro e w' ⟨rfl, hk⟩)))) | (first | (go_at_call 13; first | ((with_reducible refine (c0 _ _ (by assumption)).mono ?_); rintro e w' ⟨rfl, hk⟩) | ((with_reducible refine (c5 _ _ (by assumption)).mono ?_); rintro e w' ⟨rfl, hk⟩) | ((with_reducible refine (c6 _ _ (by assumption)).mono ?_); rintro e w' ⟨rfl, hk⟩))))
    go_wp2
    go_ret
    exact ⟨rfl, below_more kW (Later.b (by assumption)) (Nat.le_refl _)⟩
end Go.Proofs.YtcodphddkkjocaaDoor
