/- LabelLattice's walk. -/
import Derived.Test.YtcodphddkkjocaaDoorUh
import Derived.Deep.RegionHeld3
import Derived.Deep.DeepCutAuto
import Derived.Deep.Cut
import Derived.Deep.CutRange
import Derived.Deep.CutBlock
namespace Go.Proofs.YtcodphddkkjocaaDoor
open Go.RowKit
set_option linter.unusedVariables false

set_option maxRecDepth 100000 in
set_option maxHeartbeats 4000000 in
theorem labelLattice_walk (a b c : LabD) (ha : a.ok) (hb : b.ok) (hc : c.ok) (w : World) (hG : Gnd7 w) :
    Calls Tryd.prog 4 #[labV a, labV b, labV c] w fun e w' => e = .returned (.bool true) ∧ Below w.heap.size w w' := by
  obtain ⟨j, hj⟩ : ∃ j, joinD a b = j := ⟨_, rfl⟩
  obtain ⟨m, hm⟩ : ∃ m, meetD a b = m := ⟨_, rfl⟩
  have hjk : j.ok := by rw [← hj]; exact join_ok ha hb
  have hmk : m.ok := by rw [← hm]; exact meet_ok ha hb
  have hj2 : joinD b a = j := by rw [← hj]; exact join_comm b a
  have hm2 : meetD b a = m := by rw [← hm]; exact meet_comm b a
  obtain ⟨t, ht⟩ : ∃ t, joinD j c = t := ⟨_, rfl⟩
  obtain ⟨u, hu⟩ : ∃ u, joinD b c = u := ⟨_, rfl⟩
  obtain ⟨v, hv⟩ : ∃ v, meetD m c = v := ⟨_, rfl⟩
  obtain ⟨x, hx⟩ : ∃ x, meetD b c = x := ⟨_, rfl⟩
  have huk : u.ok := by rw [← hu]; exact join_ok hb hc
  have hxk : x.ok := by rw [← hx]; exact meet_ok hb hc
  obtain ⟨f1, h1⟩ : ∃ f, flowsB a c = f := ⟨_, rfl⟩
  obtain ⟨f2, h2⟩ : ∃ f, flowsB b c = f := ⟨_, rfl⟩
  obtain ⟨f3, h3⟩ : ∃ f, flowsB j c = f := ⟨_, rfl⟩
  obtain ⟨f4, h4⟩ : ∃ f, flowsB c a = f := ⟨_, rfl⟩
  obtain ⟨f5, h5⟩ : ∃ f, flowsB c b = f := ⟨_, rfl⟩
  obtain ⟨f6, h6⟩ : ∃ f, flowsB c m = f := ⟨_, rfl⟩
  have d1 : f1 = false ∨ (f1 = true ∧ f2 = false) ∨ (f1 = true ∧ f2 = true ∧ f3 = true) := by
    have k : f1 = true → f2 = true → f3 = true := fun e1 e2 => by rw [← h3, ← hj]; exact join_least ha hb hc (by rw [h1, e1]) (by rw [h2, e2])
    revert k; cases f1 <;> cases f2 <;> simp
  have d2 : f4 = false ∨ (f4 = true ∧ f5 = false) ∨ (f4 = true ∧ f5 = true ∧ f6 = true) := by
    have k : f4 = true → f5 = true → f6 = true := fun e1 e2 => by rw [← h6, ← hm]; exact meet_great ha hb hc (by rw [h4, e1]) (by rw [h5, e2])
    revert k; cases f4 <;> cases f5 <;> simp
  have cj := join_late a b j ha hb hj
  have cm := meet_late a b m ha hb hm
  have c1 := flows_late a j true ha hjk (by rw [← hj]; exact join_up ha hb)
  have c2 := flows_late b j true hb hjk (by rw [← hj2]; exact join_up hb ha)
  have c3 := flows_late m a true hmk ha (by rw [← hm]; exact meet_down ha hb)
  have c4 := flows_late m b true hmk hb (by rw [← hm2]; exact meet_down hb ha)
  have c5 := join_late b a j hb ha hj2
  have c6 := meet_late b a m hb ha hm2
  have g1 := flows_late a c f1 ha hc h1
  have g2 := flows_late b c f2 hb hc h2
  have g3 := flows_late j c f3 hjk hc h3
  have g4 := flows_late c a f4 hc ha h4
  have g5 := flows_late c b f5 hc hb h5
  have g6 := flows_late c m f6 hc hmk h6
  have i1 := join_late a m a ha hmk (by rw [← hm]; exact join_meet ha hb)
  have i2 := meet_late a j a ha hjk (by rw [← hj]; exact meet_join ha hb)
  have i3 := join_late j c t hjk hc ht
  have i4 := join_late b c u hb hc hu
  have i5 := join_late a u t ha huk (by rw [← hu, ← ht, ← hj]; exact (join_assoc a b c).symm)
  have i6 := meet_late m c v hmk hc hv
  have i7 := meet_late b c x hb hc hx
  have i8 := meet_late a x v ha hxk (by rw [← hx, ← hv, ← hm]; exact (meet_assoc a b c).symm)
  have e1 : ∀ W, (binOp .neq 24 (.agg #[.int .u64 j.s, .int .u64 j.t]) (.agg #[.int .u64 j.s, .int .u64 j.t])).run Tryd.prog W = .ok (.bool false) W := fun W => by rw [run_neL]; simp
  have e2 : ∀ W, (binOp .neq 24 (.agg #[.int .u64 m.s, .int .u64 m.t]) (.agg #[.int .u64 m.s, .int .u64 m.t])).run Tryd.prog W = .ok (.bool false) W := fun W => by rw [run_neL]; simp
  have e3 : ∀ W, (binOp .eql 24 (.agg #[.int .u64 a.s, .int .u64 a.t]) (.agg #[.int .u64 a.s, .int .u64 a.t])).run Tryd.prog W = .ok (.bool true) W := fun W => by rw [run_eqL]; simp
  have e4 : ∀ W, (binOp .eql 24 (.agg #[.int .u64 t.s, .int .u64 t.t]) (.agg #[.int .u64 t.s, .int .u64 t.t])).run Tryd.prog W = .ok (.bool true) W := fun W => by rw [run_eqL]; simp
  have e5 : ∀ W, (binOp .eql 24 (.agg #[.int .u64 v.s, .int .u64 v.t]) (.agg #[.int .u64 v.s, .int .u64 v.t])).run Tryd.prog W = .ok (.bool true) W := fun W => by rw [run_eqL]; simp
  have kB := three_below w (.cells #[.int .u64 a.s, .int .u64 a.t] 24) (.cells #[.int .u64 b.s, .int .u64 b.t] 24) (.cells #[.int .u64 c.s, .int .u64 c.t] 24)
  have cA := alive7_any _ (hG.below kB)
  have tN := three_new w a b c 24
  clear hj hm hjk hmk hj2 hm2 ht hu hv hx huk hxk h1 h2 h3 h4 h5 h6 ha hb hc hG
  obtain ⟨x1, y1⟩ := a
  obtain ⟨x2, y2⟩ := b
  obtain ⟨x3, y3⟩ := c
  obtain ⟨x4, y4⟩ := j
  obtain ⟨x5, y5⟩ := m
  unfold labV
  simp only at *
  go_enter Tryd.func4, Tryd.ntmps4
  go_wp2_with fail
  refine cA.mono ?_
  rintro e w1 ⟨rfl, hbl⟩
  have q1 := tN.later ⟨hbl⟩
  have k1 := below_more kB hbl (Nat.le_refl _)
  have p0 := q1.a.c0
  have p1 := q1.a.c1
  have p2 := q1.b.c0
  have p3 := q1.b.c1
  clear tN kB hbl cA
  go_wp2_with fail
  refine (cj _ _ (Later.refl _)).mono ?_
  rintro e w2 ⟨rfl, hk⟩
  have z2 := later_alloc w2 (.cells #[.int .u64 x4, .int .u64 y4] 24)
  have jN := LabBox.new w2 x4 y4 24
  have q2 := (q1.later hk).later z2
  have k2 := below_more (below_more k1 hk.b (Nat.le_refl _)) z2.b (Nat.le_refl _)
  have p0 := q2.a.c0
  have p1 := q2.a.c1
  have p2 := q2.b.c0
  have p3 := q2.b.c1
  clear q1 k1 hk z2 cj
  go_wp2_with fail
  refine (cm _ _ (Later.refl _)).mono ?_
  rintro e w3 ⟨rfl, hk⟩
  have z3 := later_alloc w3 (.cells #[.int .u64 x5, .int .u64 y5] 24)
  have mN := LabBox.new w3 x5 y5 24
  have q3 := (q2.later hk).later z3
  have j3 := (jN.later hk).later z3
  have kW := below_more (below_more k2 hk.b (Nat.le_refl _)) z3.b (Nat.le_refl _)
  generalize w2.heap.size = jb at *
  clear q2 jN k2 hk z3 p0 p1 p2 p3 cm
  go_wp2_with fail
  generalize w3.heap.size = mb at *
  generalize w3.alloc (.cells #[.int .u64 x5, .int .u64 y5] 24) = W0 at *
  have t0 : ∀ W, Later W0 W → (W.cell? ⟨w.heap.size, 0, none⟩ = some (.int .u64 x1) ∧ W.cell? ⟨w.heap.size, 1, none⟩ = some (.int .u64 y1) ∧ W.cell? ⟨w.heap.size + 1, 0, none⟩ = some (.int .u64 x2) ∧ W.cell? ⟨w.heap.size + 1, 1, none⟩ = some (.int .u64 y2) ∧ W.cell? ⟨w.heap.size + 2, 0, none⟩ = some (.int .u64 x3) ∧ W.cell? ⟨w.heap.size + 2, 1, none⟩ = some (.int .u64 y3) ∧ W.cell? ⟨jb, 0, none⟩ = some (.int .u64 x4) ∧ W.cell? ⟨jb, 1, none⟩ = some (.int .u64 y4) ∧ W.cell? ⟨mb, 0, none⟩ = some (.int .u64 x5) ∧ W.cell? ⟨mb, 1, none⟩ = some (.int .u64 y5)) := fun W hW => ⟨(q3.later hW).a.c0, (q3.later hW).a.c1, (q3.later hW).b.c0, (q3.later hW).b.c1, (q3.later hW).c.c0, (q3.later hW).c.c1, (j3.later hW).c0, (j3.later hW).c1, (mN.later hW).c0, (mN.later hW).c1⟩
  clear q3 j3 mN
  have l0 := (Later.refl W0).drew
  have G := Lib.hid (And.intro g1 (And.intro g2 (And.intro g3 (And.intro g4 (And.intro g5 g6)))))
  have I := Lib.hid (And.intro i1 (And.intro i2 (And.intro i3 (And.intro i4 (And.intro i5 (And.intro i6 (And.intro i7 i8)))))))
  clear g1 g2 g3 g4 g5 g6 i1 i2 i3 i4 i5 i6 i7 i8
  go_region_held3 (fun w' => (w'.cell? ⟨w.heap.size, 0, none⟩ = some (.int .u64 x1) ∧ w'.cell? ⟨w.heap.size, 1, none⟩ = some (.int .u64 y1) ∧ w'.cell? ⟨w.heap.size + 1, 0, none⟩ = some (.int .u64 x2) ∧ w'.cell? ⟨w.heap.size + 1, 1, none⟩ = some (.int .u64 y2) ∧ w'.cell? ⟨w.heap.size + 2, 0, none⟩ = some (.int .u64 x3) ∧ w'.cell? ⟨w.heap.size + 2, 1, none⟩ = some (.int .u64 y3) ∧ w'.cell? ⟨jb, 0, none⟩ = some (.int .u64 x4) ∧ w'.cell? ⟨jb, 1, none⟩ = some (.int .u64 y4) ∧ w'.cell? ⟨mb, 0, none⟩ = some (.int .u64 x5) ∧ w'.cell? ⟨mb, 1, none⟩ = some (.int .u64 y5))) (first | assumption | exact t0 _ (by assumption)) (first | (rw [if_pos (by rfl)]; go_simp; (first | (go_at_call 10; first | ((with_reducible refine (c1 _ _ (by assumption)).mono ?_); rintro e w' ⟨rfl, hk⟩) | ((with_reducible refine (c2 _ _ (by assumption)).mono ?_); rintro e w' ⟨rfl, hk⟩) | ((with_reducible refine (c3 _ _ (by assumption)).mono ?_); rintro e w' ⟨rfl, hk⟩) | ((with_reducible refine (c4 _ _ (by assumption)).mono ?_); rintro e w' ⟨rfl, hk⟩)) | (go_at_call 11; first | ((with_reducible refine (c5 _ _ (by assumption)).mono ?_); rintro e w' ⟨rfl, hk⟩)) | (go_at_call 12; first | ((with_reducible refine (c6 _ _ (by assumption)).mono ?_); rintro e w' ⟨rfl, hk⟩)))) | (first | (go_at_call 10; first | ((with_reducible refine (c1 _ _ (by assumption)).mono ?_); rintro e w' ⟨rfl, hk⟩) | ((with_reducible refine (c2 _ _ (by assumption)).mono ?_); rintro e w' ⟨rfl, hk⟩) | ((with_reducible refine (c3 _ _ (by assumption)).mono ?_); rintro e w' ⟨rfl, hk⟩) | ((with_reducible refine (c4 _ _ (by assumption)).mono ?_); rintro e w' ⟨rfl, hk⟩)) | (go_at_call 11; first | ((with_reducible refine (c5 _ _ (by assumption)).mono ?_); rintro e w' ⟨rfl, hk⟩)) | (go_at_call 12; first | ((with_reducible refine (c6 _ _ (by assumption)).mono ?_); rintro e w' ⟨rfl, hk⟩))))
  clear c1 c2 c3 c4 c5 c6
  go_upto_region 7 with fail
  go_cut [82] (fun s wx => s = .bool false ∧ Later W0 wx)
  case first =>
    obtain ⟨g1, g2, g3, g4, g5, g6⟩ := G.out
    obtain ⟨p0, p1, p2, p3, p4, p5, p6, p7, p8, p9⟩ := t0 _ hk
    clear I
    rcases d1 with rfl | ⟨rfl, rfl⟩ | ⟨rfl, rfl, rfl⟩ <;> rcases d2 with rfl | ⟨rfl, rfl⟩ | ⟨rfl, rfl, rfl⟩
    all_goals
      go_wp2_with (first
        | (go_at_call 10; (with_reducible refine (g1 _ _ (by assumption)).mono ?_); rintro e w' ⟨rfl, hk⟩; obtain ⟨p0, p1, p2, p3, p4, p5, p6, p7, p8, p9⟩ := t0 _ hk)
        | (go_at_call 10; (with_reducible refine (g2 _ _ (by assumption)).mono ?_); rintro e w' ⟨rfl, hk⟩; obtain ⟨p0, p1, p2, p3, p4, p5, p6, p7, p8, p9⟩ := t0 _ hk)
        | (go_at_call 10; (with_reducible refine (g3 _ _ (by assumption)).mono ?_); rintro e w' ⟨rfl, hk⟩; obtain ⟨p0, p1, p2, p3, p4, p5, p6, p7, p8, p9⟩ := t0 _ hk)
        | (go_at_call 10; (with_reducible refine (g4 _ _ (by assumption)).mono ?_); rintro e w' ⟨rfl, hk⟩; obtain ⟨p0, p1, p2, p3, p4, p5, p6, p7, p8, p9⟩ := t0 _ hk)
        | (go_at_call 10; (with_reducible refine (g5 _ _ (by assumption)).mono ?_); rintro e w' ⟨rfl, hk⟩; obtain ⟨p0, p1, p2, p3, p4, p5, p6, p7, p8, p9⟩ := t0 _ hk)
        | (go_at_call 10; (with_reducible refine (g6 _ _ (by assumption)).mono ?_); rintro e w' ⟨rfl, hk⟩; obtain ⟨p0, p1, p2, p3, p4, p5, p6, p7, p8, p9⟩ := t0 _ hk)
        | fail)
      go_meet
      exact ⟨rfl, by assumption⟩
  case rest =>
    obtain ⟨rfl, hk9⟩ := hcut
    obtain ⟨i1, i2, i3, i4, i5, i6, i7, i8⟩ := I.out
    clear G I hk
    have l9 := hk9.drew
    go_wp2_with fail
    go_region_held3 (fun w' => (w'.cell? ⟨w.heap.size, 0, none⟩ = some (.int .u64 x1) ∧ w'.cell? ⟨w.heap.size, 1, none⟩ = some (.int .u64 y1) ∧ w'.cell? ⟨w.heap.size + 1, 0, none⟩ = some (.int .u64 x2) ∧ w'.cell? ⟨w.heap.size + 1, 1, none⟩ = some (.int .u64 y2) ∧ w'.cell? ⟨w.heap.size + 2, 0, none⟩ = some (.int .u64 x3) ∧ w'.cell? ⟨w.heap.size + 2, 1, none⟩ = some (.int .u64 y3) ∧ w'.cell? ⟨jb, 0, none⟩ = some (.int .u64 x4) ∧ w'.cell? ⟨jb, 1, none⟩ = some (.int .u64 y4) ∧ w'.cell? ⟨mb, 0, none⟩ = some (.int .u64 x5) ∧ w'.cell? ⟨mb, 1, none⟩ = some (.int .u64 y5))) (first | assumption | exact t0 _ (by assumption)) (first | (rw [if_pos (by rfl)]; go_simp; (first | (go_at_call 11; first | ((with_reducible refine (i1 _ _ (by assumption)).mono ?_); rintro e w' ⟨rfl, hk⟩) | ((with_reducible refine (i3 _ _ (by assumption)).mono ?_); rintro e w' ⟨rfl, hk⟩) | ((with_reducible refine (i4 _ _ (by assumption)).mono ?_); rintro e w' ⟨rfl, hk⟩) | ((with_reducible refine (i5 _ _ (by assumption)).mono ?_); rintro e w' ⟨rfl, hk⟩)) | (go_at_call 12; first | ((with_reducible refine (i2 _ _ (by assumption)).mono ?_); rintro e w' ⟨rfl, hk⟩) | ((with_reducible refine (i6 _ _ (by assumption)).mono ?_); rintro e w' ⟨rfl, hk⟩) | ((with_reducible refine (i7 _ _ (by assumption)).mono ?_); rintro e w' ⟨rfl, hk⟩) | ((with_reducible refine (i8 _ _ (by assumption)).mono ?_); rintro e w' ⟨rfl, hk⟩)))) | (first | (go_at_call 11; first | ((with_reducible refine (i1 _ _ (by assumption)).mono ?_); rintro e w' ⟨rfl, hk⟩) | ((with_reducible refine (i3 _ _ (by assumption)).mono ?_); rintro e w' ⟨rfl, hk⟩) | ((with_reducible refine (i4 _ _ (by assumption)).mono ?_); rintro e w' ⟨rfl, hk⟩) | ((with_reducible refine (i5 _ _ (by assumption)).mono ?_); rintro e w' ⟨rfl, hk⟩)) | (go_at_call 12; first | ((with_reducible refine (i2 _ _ (by assumption)).mono ?_); rintro e w' ⟨rfl, hk⟩) | ((with_reducible refine (i6 _ _ (by assumption)).mono ?_); rintro e w' ⟨rfl, hk⟩) | ((with_reducible refine (i7 _ _ (by assumption)).mono ?_); rintro e w' ⟨rfl, hk⟩) | ((with_reducible refine (i8 _ _ (by assumption)).mono ?_); rintro e w' ⟨rfl, hk⟩))))
    go_wp2
    go_ret
    exact ⟨rfl, below_more kW (Later.b (by assumption)) (Nat.le_refl _)⟩
end Go.Proofs.YtcodphddkkjocaaDoor
