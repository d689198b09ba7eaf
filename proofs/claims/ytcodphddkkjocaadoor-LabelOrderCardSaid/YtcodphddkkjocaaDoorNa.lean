/- LabelOrder's walk. -/
import Derived.Test.YtcodphddkkjocaaDoorUh
import Derived.Deep.RegionHeld3
namespace Go.Proofs.YtcodphddkkjocaaDoor
open Go.RowKit
set_option linter.unusedVariables false

set_option maxRecDepth 100000 in
set_option maxHeartbeats 4000000 in
theorem labelOrder_walk (a b c : LabD) (ha : a.ok) (hb : b.ok) (hc : c.ok) (w : World) (hG : Gnd7 w) :
    Calls Tryd.prog 3 #[labV a, labV b, labV c] w fun e w' => e = .returned (.bool true) ∧ Below w.heap.size w w' := by
  obtain ⟨f1, h1⟩ : ∃ f, flowsB a b = f := ⟨_, rfl⟩
  obtain ⟨f2, h2⟩ : ∃ f, flowsB b a = f := ⟨_, rfl⟩
  obtain ⟨f3, h3⟩ : ∃ f, flowsB b c = f := ⟨_, rfl⟩
  obtain ⟨f4, h4⟩ : ∃ f, flowsB a c = f := ⟨_, rfl⟩
  have c0 := flows_late a a true ha ha (flows_self ha)
  have c1 := flows_late a b f1 ha hb h1
  have c2 := flows_late b a f2 hb ha h2
  have c3 := flows_late b c f3 hb hc h3
  have c4 := flows_late a c f4 ha hc h4
  have k1 : f1 = true → f2 = true → ((a.s : Int) == (b.s : Int) && (a.t : Int) == (b.t : Int)) = true := fun e1 e2 => (eqL_iff a b).2 (flows_two ha hb (by rw [h1, e1]) (by rw [h2, e2]))
  have k2 : f1 = true → f3 = true → f4 = true := fun e1 e2 => by rw [← h4]; exact flows_three ha hb hc (by rw [h1, e1]) (by rw [h3, e2])
  have hN := fun W => run_neL a.s a.t b.s b.t W
  have kB := three_below w (.cells #[.int .u64 a.s, .int .u64 a.t] 24) (.cells #[.int .u64 b.s, .int .u64 b.t] 24) (.cells #[.int .u64 c.s, .int .u64 c.t] 24)
  have cA := alive7_any _ (hG.below kB)
  have tN := three_new w a b c 24
  clear h1 h2 h3 h4 ha hb hc hG
  obtain ⟨x1, y1⟩ := a
  obtain ⟨x2, y2⟩ := b
  obtain ⟨x3, y3⟩ := c
  unfold labV
  simp only at *
  cases f1 <;> cases f2 <;> cases f3 <;> cases f4 <;> first | exact absurd (k2 rfl rfl) (by decide) | skip
  all_goals
    try (rw [k1 rfl rfl] at hN; simp only [Bool.not_true] at hN)
    clear k1 k2
    go_enter Tryd.func3, Tryd.ntmps3
    go_wp2_with fail
    refine cA.mono ?_
    rintro e W0 ⟨rfl, hbl⟩
    have q0 := tN.later ⟨hbl⟩
    have t0 : ∀ W, Later W0 W → (W.cell? ⟨w.heap.size, 0, none⟩ = some (.int .u64 x1) ∧ W.cell? ⟨w.heap.size, 1, none⟩ = some (.int .u64 y1) ∧ W.cell? ⟨w.heap.size + 1, 0, none⟩ = some (.int .u64 x2) ∧ W.cell? ⟨w.heap.size + 1, 1, none⟩ = some (.int .u64 y2) ∧ W.cell? ⟨w.heap.size + 2, 0, none⟩ = some (.int .u64 x3) ∧ W.cell? ⟨w.heap.size + 2, 1, none⟩ = some (.int .u64 y3)) := fun W hW => have k := q0.later hW; ⟨k.a.c0, k.a.c1, k.b.c0, k.b.c1, k.c.c0, k.c.c1⟩
    have kW := below_more kB hbl (Nat.le_refl _)
    have l0 := Later.refl W0
    obtain ⟨p0, p1, p2, p3, p4, p5⟩ := t0 _ l0
    clear q0 tN kB hbl cA
    go_wp2_with (first
      | (go_at_call 10; (with_reducible refine (c0 _ _ (by assumption)).mono ?_); rintro e w' ⟨rfl, hk⟩; obtain ⟨p0, p1, p2, p3, p4, p5⟩ := t0 _ hk)
      | (go_at_call 10; (with_reducible refine (c1 _ _ (by assumption)).mono ?_); rintro e w' ⟨rfl, hk⟩; obtain ⟨p0, p1, p2, p3, p4, p5⟩ := t0 _ hk)
      | (go_at_call 10; (with_reducible refine (c2 _ _ (by assumption)).mono ?_); rintro e w' ⟨rfl, hk⟩; obtain ⟨p0, p1, p2, p3, p4, p5⟩ := t0 _ hk)
      | (go_at_call 10; (with_reducible refine (c3 _ _ (by assumption)).mono ?_); rintro e w' ⟨rfl, hk⟩; obtain ⟨p0, p1, p2, p3, p4, p5⟩ := t0 _ hk)
      | (go_at_call 10; (with_reducible refine (c4 _ _ (by assumption)).mono ?_); rintro e w' ⟨rfl, hk⟩; obtain ⟨p0, p1, p2, p3, p4, p5⟩ := t0 _ hk)
      | fail)
    go_ret
    exact ⟨rfl, below_more kW (Later.b (by assumption)) (Nat.le_refl _)⟩
end Go.Proofs.YtcodphddkkjocaaDoor
