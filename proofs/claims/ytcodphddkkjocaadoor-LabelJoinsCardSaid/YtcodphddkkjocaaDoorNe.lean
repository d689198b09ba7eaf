/- LabelJoins's walk. -/
import Derived.Test.YtcodphddkkjocaaDoorUh
import Derived.Deep.RegionHeld3
namespace Go.Proofs.YtcodphddkkjocaaDoor
open Go.RowKit
set_option linter.unusedVariables false

set_option maxRecDepth 100000 in
set_option maxHeartbeats 4000000 in
theorem labelJoins_yes (a b c : LabD) (o : Nat) (ha : a.ok) (hb : b.ok) (hc : c.ok) (ho : okW64 o) (f2 : Bool) (hf1 : withB a c o = true) (hf2 : withB b c o = f2) (w : World) (hG : Gnd7 w) :
    Calls Tryd.prog 8 #[labV a, labV b, labV c, .int .u64 o] w fun e w' => e = .returned (.bool true) ∧ Below w.heap.size w w' := by
  obtain ⟨j, hj⟩ : ∃ j, joinD a b = j := ⟨_, rfl⟩
  obtain ⟨m, hm⟩ : ∃ m, meetD a b = m := ⟨_, rfl⟩
  have hjk : j.ok := by rw [← hj]; exact join_ok ha hb
  have hmk : m.ok := by rw [← hm]; exact meet_ok ha hb
  obtain ⟨n1, h1⟩ : ∃ n, needN a c = n := ⟨_, rfl⟩
  obtain ⟨n2, h2⟩ : ∃ n, needN b c = n := ⟨_, rfl⟩
  obtain ⟨n3, h3⟩ : ∃ n, needN c a = n := ⟨_, rfl⟩
  obtain ⟨n4, h4⟩ : ∃ n, needN c b = n := ⟨_, rfl⟩
  have l1 : okW64 n1 := by rw [← h1]; exact need_lt ha hc
  have l2 : okW64 n2 := by rw [← h2]; exact need_lt hb hc
  have l3 : okW64 n3 := by rw [← h3]; exact need_lt hc ha
  have l4 : okW64 n4 := by rw [← h4]; exact need_lt hc hb
  obtain ⟨s1, e1⟩ : ∃ s, n1 ||| n2 = s := ⟨_, rfl⟩
  obtain ⟨s2, e2⟩ : ∃ s, n3 ||| n4 = s := ⟨_, rfl⟩
  have hO1 : bits .or .u64 (n1 : Int) (n2 : Int) = (s1 : Int) := by rw [bits_or_u64_nat n1 n2 l1 l2, e1]
  have hO2 : bits .or .u64 (n3 : Int) (n4 : Int) = (s2 : Int) := by rw [bits_or_u64_nat n3 n4 l3 l4, e2]
  have cj := join_late a b j ha hb hj
  have cm := meet_late a b m ha hb hm
  have c1 := need_late a c n1 ha hc h1
  have c2 := need_late b c n2 hb hc h2
  have c3 := need_late c a n3 hc ha h3
  have c4 := need_late c b n4 hc hb h4
  have c5 := need_late j c s1 hjk hc (by rw [← hj, need_join ha hb hc, h1, h2, e1])
  have c6 := need_late c m s2 hc hmk (by rw [← hm, need_meet ha hb hc, h3, h4, e2])
  have c7 := with_late a c o true ha hc ho hf1
  have c8 := with_late b c o f2 hb hc ho hf2
  have c9 := with_late j c o (true && f2) hjk hc ho (by rw [← hj, with_join ha hb hc ho, hf1, hf2])
  have kB := three_below w (.cells #[.int .u64 a.s, .int .u64 a.t] 24) (.cells #[.int .u64 b.s, .int .u64 b.t] 24) (.cells #[.int .u64 c.s, .int .u64 c.t] 24)
  have cA := alive7_any _ (hG.below kB)
  have tN := three_new w a b c 24
  clear hj hm hjk hmk h1 h2 h3 h4 l1 l2 l3 l4 e1 e2 hf1 hf2 ha hb hc ho hG
  obtain ⟨x1, y1⟩ := a
  obtain ⟨x2, y2⟩ := b
  obtain ⟨x3, y3⟩ := c
  obtain ⟨x4, y4⟩ := j
  obtain ⟨x5, y5⟩ := m
  unfold labV
  simp only at *
  simp only [Bool.true_and] at c9
  go_enter Tryd.func8, Tryd.ntmps8
  go_wp2_with fail
  refine cA.mono ?_
  rintro e w1 ⟨rfl, hbl⟩
  have q1 := tN.later ⟨hbl⟩
  have k1 := below_more kB hbl (Nat.le_refl _)
  have p0 := q1.a.c0
  have p1 := q1.a.c1
  have p2 := q1.b.c0
  have p3 := q1.b.c1
  clear tN kB hbl cA
  go_wp2_with fail
  refine (cj _ _ (Later.refl _)).mono ?_
  rintro e w2 ⟨rfl, hk⟩
  have z2 := later_alloc w2 (.cells #[.int .u64 x4, .int .u64 y4] 24)
  have jN := LabBox.new w2 x4 y4 24
  have q2 := (q1.later hk).later z2
  have k2 := below_more (below_more k1 hk.b (Nat.le_refl _)) z2.b (Nat.le_refl _)
  have p0 := q2.a.c0
  have p1 := q2.a.c1
  have p2 := q2.b.c0
  have p3 := q2.b.c1
  clear q1 k1 hk z2 cj
  go_wp2_with fail
  refine (cm _ _ (Later.refl _)).mono ?_
  rintro e w3 ⟨rfl, hk⟩
  have z3 := later_alloc w3 (.cells #[.int .u64 x5, .int .u64 y5] 24)
  have mN := LabBox.new w3 x5 y5 24
  have q3 := (q2.later hk).later z3
  have j3 := (jN.later hk).later z3
  have kW := below_more (below_more k2 hk.b (Nat.le_refl _)) z3.b (Nat.le_refl _)
  generalize w2.heap.size = jb at *
  clear q2 jN k2 hk z3 p0 p1 p2 p3 cm
  go_wp2_with fail
  generalize w3.heap.size = mb at *
  generalize w3.alloc (.cells #[.int .u64 x5, .int .u64 y5] 24) = W0 at *
  have t0 : ∀ W, Later W0 W → (W.cell? ⟨w.heap.size, 0, none⟩ = some (.int .u64 x1) ∧ W.cell? ⟨w.heap.size, 1, none⟩ = some (.int .u64 y1) ∧ W.cell? ⟨w.heap.size + 1, 0, none⟩ = some (.int .u64 x2) ∧ W.cell? ⟨w.heap.size + 1, 1, none⟩ = some (.int .u64 y2) ∧ W.cell? ⟨w.heap.size + 2, 0, none⟩ = some (.int .u64 x3) ∧ W.cell? ⟨w.heap.size + 2, 1, none⟩ = some (.int .u64 y3) ∧ W.cell? ⟨jb, 0, none⟩ = some (.int .u64 x4) ∧ W.cell? ⟨jb, 1, none⟩ = some (.int .u64 y4) ∧ W.cell? ⟨mb, 0, none⟩ = some (.int .u64 x5) ∧ W.cell? ⟨mb, 1, none⟩ = some (.int .u64 y5)) := fun W hW => ⟨(q3.later hW).a.c0, (q3.later hW).a.c1, (q3.later hW).b.c0, (q3.later hW).b.c1, (q3.later hW).c.c0, (q3.later hW).c.c1, (j3.later hW).c0, (j3.later hW).c1, (mN.later hW).c0, (mN.later hW).c1⟩
  clear q3 j3 mN
  have l0 := (Later.refl W0).drew
  go_region_held3 (fun w' => (w'.cell? ⟨w.heap.size, 0, none⟩ = some (.int .u64 x1) ∧ w'.cell? ⟨w.heap.size, 1, none⟩ = some (.int .u64 y1) ∧ w'.cell? ⟨w.heap.size + 1, 0, none⟩ = some (.int .u64 x2) ∧ w'.cell? ⟨w.heap.size + 1, 1, none⟩ = some (.int .u64 y2) ∧ w'.cell? ⟨w.heap.size + 2, 0, none⟩ = some (.int .u64 x3) ∧ w'.cell? ⟨w.heap.size + 2, 1, none⟩ = some (.int .u64 y3) ∧ w'.cell? ⟨jb, 0, none⟩ = some (.int .u64 x4) ∧ w'.cell? ⟨jb, 1, none⟩ = some (.int .u64 y4) ∧ w'.cell? ⟨mb, 0, none⟩ = some (.int .u64 x5) ∧ w'.cell? ⟨mb, 1, none⟩ = some (.int .u64 y5))) (first | assumption | exact t0 _ (by assumption)) (first | (rw [if_pos (by rfl)]; go_simp; (first | (go_at_call 13; first | ((with_reducible refine (c1 _ _ (by assumption)).mono ?_); rintro e w' ⟨rfl, hk⟩) | ((with_reducible refine (c2 _ _ (by assumption)).mono ?_); rintro e w' ⟨rfl, hk⟩) | ((with_reducible refine (c3 _ _ (by assumption)).mono ?_); rintro e w' ⟨rfl, hk⟩) | ((with_reducible refine (c4 _ _ (by assumption)).mono ?_); rintro e w' ⟨rfl, hk⟩) | ((with_reducible refine (c5 _ _ (by assumption)).mono ?_); rintro e w' ⟨rfl, hk⟩) | ((with_reducible refine (c6 _ _ (by assumption)).mono ?_); rintro e w' ⟨rfl, hk⟩)) | (go_at_call 14; first | ((with_reducible refine (c7 _ _ (by assumption)).mono ?_); rintro e w' ⟨rfl, hk⟩) | ((with_reducible refine (c8 _ _ (by assumption)).mono ?_); rintro e w' ⟨rfl, hk⟩) | ((with_reducible refine (c9 _ _ (by assumption)).mono ?_); rintro e w' ⟨rfl, hk⟩)))) | (first | (go_at_call 13; first | ((with_reducible refine (c1 _ _ (by assumption)).mono ?_); rintro e w' ⟨rfl, hk⟩) | ((with_reducible refine (c2 _ _ (by assumption)).mono ?_); rintro e w' ⟨rfl, hk⟩) | ((with_reducible refine (c3 _ _ (by assumption)).mono ?_); rintro e w' ⟨rfl, hk⟩) | ((with_reducible refine (c4 _ _ (by assumption)).mono ?_); rintro e w' ⟨rfl, hk⟩) | ((with_reducible refine (c5 _ _ (by assumption)).mono ?_); rintro e w' ⟨rfl, hk⟩) | ((with_reducible refine (c6 _ _ (by assumption)).mono ?_); rintro e w' ⟨rfl, hk⟩)) | (go_at_call 14; first | ((with_reducible refine (c7 _ _ (by assumption)).mono ?_); rintro e w' ⟨rfl, hk⟩) | ((with_reducible refine (c8 _ _ (by assumption)).mono ?_); rintro e w' ⟨rfl, hk⟩) | ((with_reducible refine (c9 _ _ (by assumption)).mono ?_); rintro e w' ⟨rfl, hk⟩))))
  go_wp2
  go_ret
  exact ⟨rfl, below_more kW (Later.b (by assumption)) (Nat.le_refl _)⟩
set_option maxRecDepth 100000 in
set_option maxHeartbeats 4000000 in
theorem labelJoins_no (a b c : LabD) (o : Nat) (ha : a.ok) (hb : b.ok) (hc : c.ok) (ho : okW64 o) (f2 : Bool) (hf1 : withB a c o = false) (hf2 : withB b c o = f2) (w : World) (hG : Gnd7 w) :
    Calls Tryd.prog 8 #[labV a, labV b, labV c, .int .u64 o] w fun e w' => e = .returned (.bool true) ∧ Below w.heap.size w w' := by
  obtain ⟨j, hj⟩ : ∃ j, joinD a b = j := ⟨_, rfl⟩
  obtain ⟨m, hm⟩ : ∃ m, meetD a b = m := ⟨_, rfl⟩
  have hjk : j.ok := by rw [← hj]; exact join_ok ha hb
  have hmk : m.ok := by rw [← hm]; exact meet_ok ha hb
  obtain ⟨n1, h1⟩ : ∃ n, needN a c = n := ⟨_, rfl⟩
  obtain ⟨n2, h2⟩ : ∃ n, needN b c = n := ⟨_, rfl⟩
  obtain ⟨n3, h3⟩ : ∃ n, needN c a = n := ⟨_, rfl⟩
  obtain ⟨n4, h4⟩ : ∃ n, needN c b = n := ⟨_, rfl⟩
  have l1 : okW64 n1 := by rw [← h1]; exact need_lt ha hc
  have l2 : okW64 n2 := by rw [← h2]; exact need_lt hb hc
  have l3 : okW64 n3 := by rw [← h3]; exact need_lt hc ha
  have l4 : okW64 n4 := by rw [← h4]; exact need_lt hc hb
  obtain ⟨s1, e1⟩ : ∃ s, n1 ||| n2 = s := ⟨_, rfl⟩
  obtain ⟨s2, e2⟩ : ∃ s, n3 ||| n4 = s := ⟨_, rfl⟩
  have hO1 : bits .or .u64 (n1 : Int) (n2 : Int) = (s1 : Int) := by rw [bits_or_u64_nat n1 n2 l1 l2, e1]
  have hO2 : bits .or .u64 (n3 : Int) (n4 : Int) = (s2 : Int) := by rw [bits_or_u64_nat n3 n4 l3 l4, e2]
  have cj := join_late a b j ha hb hj
  have cm := meet_late a b m ha hb hm
  have c1 := need_late a c n1 ha hc h1
  have c2 := need_late b c n2 hb hc h2
  have c3 := need_late c a n3 hc ha h3
  have c4 := need_late c b n4 hc hb h4
  have c5 := need_late j c s1 hjk hc (by rw [← hj, need_join ha hb hc, h1, h2, e1])
  have c6 := need_late c m s2 hc hmk (by rw [← hm, need_meet ha hb hc, h3, h4, e2])
  have c7 := with_late a c o false ha hc ho hf1
  have c8 := with_late b c o f2 hb hc ho hf2
  have c9 := with_late j c o (false && f2) hjk hc ho (by rw [← hj, with_join ha hb hc ho, hf1, hf2])
  have kB := three_below w (.cells #[.int .u64 a.s, .int .u64 a.t] 24) (.cells #[.int .u64 b.s, .int .u64 b.t] 24) (.cells #[.int .u64 c.s, .int .u64 c.t] 24)
  have cA := alive7_any _ (hG.below kB)
  have tN := three_new w a b c 24
  clear hj hm hjk hmk h1 h2 h3 h4 l1 l2 l3 l4 e1 e2 hf1 hf2 ha hb hc ho hG
  obtain ⟨x1, y1⟩ := a
  obtain ⟨x2, y2⟩ := b
  obtain ⟨x3, y3⟩ := c
  obtain ⟨x4, y4⟩ := j
  obtain ⟨x5, y5⟩ := m
  unfold labV
  simp only at *
  simp only [Bool.false_and] at c9
  go_enter Tryd.func8, Tryd.ntmps8
  go_wp2_with fail
  refine cA.mono ?_
  rintro e w1 ⟨rfl, hbl⟩
  have q1 := tN.later ⟨hbl⟩
  have k1 := below_more kB hbl (Nat.le_refl _)
  have p0 := q1.a.c0
  have p1 := q1.a.c1
  have p2 := q1.b.c0
  have p3 := q1.b.c1
  clear tN kB hbl cA
  go_wp2_with fail
  refine (cj _ _ (Later.refl _)).mono ?_
  rintro e w2 ⟨rfl, hk⟩
  have z2 := later_alloc w2 (.cells #[.int .u64 x4, .int .u64 y4] 24)
  have jN := LabBox.new w2 x4 y4 24
  have q2 := (q1.later hk).later z2
  have k2 := below_more (below_more k1 hk.b (Nat.le_refl _)) z2.b (Nat.le_refl _)
  have p0 := q2.a.c0
  have p1 := q2.a.c1
  have p2 := q2.b.c0
  have p3 := q2.b.c1
  clear q1 k1 hk z2 cj
  go_wp2_with fail
  refine (cm _ _ (Later.refl _)).mono ?_
  rintro e w3 ⟨rfl, hk⟩
  have z3 := later_alloc w3 (.cells #[.int .u64 x5, .int .u64 y5] 24)
  have mN := LabBox.new w3 x5 y5 24
  have q3 := (q2.later hk).later z3
  have j3 := (jN.later hk).later z3
  have kW := below_more (below_more k2 hk.b (Nat.le_refl _)) z3.b (Nat.le_refl _)
  generalize w2.heap.size = jb at *
  clear q2 jN k2 hk z3 p0 p1 p2 p3 cm
  go_wp2_with fail
  generalize w3.heap.size = mb at *
  generalize w3.alloc (.cells #[.int .u64 x5, .int .u64 y5] 24) = W0 at *
  have t0 : ∀ W, Later W0 W → (W.cell? ⟨w.heap.size, 0, none⟩ = some (.int .u64 x1) ∧ W.cell? ⟨w.heap.size, 1, none⟩ = some (.int .u64 y1) ∧ W.cell? ⟨w.heap.size + 1, 0, none⟩ = some (.int .u64 x2) ∧ W.cell? ⟨w.heap.size + 1, 1, none⟩ = some (.int .u64 y2) ∧ W.cell? ⟨w.heap.size + 2, 0, none⟩ = some (.int .u64 x3) ∧ W.cell? ⟨w.heap.size + 2, 1, none⟩ = some (.int .u64 y3) ∧ W.cell? ⟨jb, 0, none⟩ = some (.int .u64 x4) ∧ W.cell? ⟨jb, 1, none⟩ = some (.int .u64 y4) ∧ W.cell? ⟨mb, 0, none⟩ = some (.int .u64 x5) ∧ W.cell? ⟨mb, 1, none⟩ = some (.int .u64 y5)) := fun W hW => ⟨(q3.later hW).a.c0, (q3.later hW).a.c1, (q3.later hW).b.c0, (q3.later hW).b.c1, (q3.later hW).c.c0, (q3.later hW).c.c1, (j3.later hW).c0, (j3.later hW).c1, (mN.later hW).c0, (mN.later hW).c1⟩
  clear q3 j3 mN
  have l0 := (Later.refl W0).drew
  refine wp_region_noPanic ?_
  refine wp_region_held_drew (S := fun w' => (w'.cell? ⟨w.heap.size, 0, none⟩ = some (.int .u64 x1) ∧ w'.cell? ⟨w.heap.size, 1, none⟩ = some (.int .u64 y1) ∧ w'.cell? ⟨w.heap.size + 1, 0, none⟩ = some (.int .u64 x2) ∧ w'.cell? ⟨w.heap.size + 1, 1, none⟩ = some (.int .u64 y2) ∧ w'.cell? ⟨w.heap.size + 2, 0, none⟩ = some (.int .u64 x3) ∧ w'.cell? ⟨w.heap.size + 2, 1, none⟩ = some (.int .u64 y3) ∧ w'.cell? ⟨jb, 0, none⟩ = some (.int .u64 x4) ∧ w'.cell? ⟨jb, 1, none⟩ = some (.int .u64 y4) ∧ w'.cell? ⟨mb, 0, none⟩ = some (.int .u64 x5) ∧ w'.cell? ⟨mb, 1, none⟩ = some (.int .u64 y5))) (by kernel_rfl) (t0 _ l0) (fun hHeld => ?_)
  try simp only [Act.put, List.setIfInBounds_toArray, List.set_cons_zero, List.set_cons_succ]
  refine wpAnyH_take (i := 0) (oi := ⟨some 19, _, _, _, _, _⟩) (v := ?v0) rfl (by kernel_rfl) (by kernel_rfl) (by kernel_rfl) (fun _ _ _ h => h) (Or.inl ⟨by rfl, ?y0⟩) (by assumption) ?r0
  case y0 =>
    intro w hSw
    try dsimp only at hSw
    go_simp
    try with_reducible rfl
  try simp only [Act.put, List.setIfInBounds_toArray, List.set_cons_zero, List.set_cons_succ]
  refine wpAnyH_take (i := 1) (oi := ⟨some 20, _, _, _, _, _⟩) (v := ?v1) rfl (by kernel_rfl) (by kernel_rfl) (by kernel_rfl) (fun _ _ _ h => h) (Or.inl ⟨by rfl, ?y1⟩) (by assumption) ?r1
  case y1 =>
    intro w hSw
    try dsimp only at hSw
    go_simp
    try with_reducible rfl
  try simp only [Act.put, List.setIfInBounds_toArray, List.set_cons_zero, List.set_cons_succ]
  refine wpAnyH_take (i := 3) (oi := ⟨some 22, _, _, _, _, _⟩) (v := ?v3) rfl (by kernel_rfl) (by kernel_rfl) (by kernel_rfl) (fun _ _ _ h => h) (Or.inl ⟨by rfl, ?y3⟩) (by assumption) ?r3
  case y3 =>
    intro w hSw
    try dsimp only at hSw
    go_simp
    try with_reducible rfl
  try simp only [Act.put, List.setIfInBounds_toArray, List.set_cons_zero, List.set_cons_succ]
  refine wpAnyH_take (i := 4) (oi := ⟨some 23, _, _, _, _, _⟩) (v := ?v4) rfl (by kernel_rfl) (by kernel_rfl) (by kernel_rfl) (fun _ _ _ h => h) (Or.inl ⟨by rfl, ?y4⟩) (by assumption) ?r4
  case y4 =>
    intro w hSw
    try dsimp only at hSw
    go_simp
    try with_reducible rfl
  try simp only [Act.put, List.setIfInBounds_toArray, List.set_cons_zero, List.set_cons_succ]
  refine wpAnyH_take (i := 6) (oi := ⟨some 25, _, _, _, _, _⟩) (v := ?v6) rfl (by kernel_rfl) (by kernel_rfl) (by kernel_rfl) (fun _ _ _ h => h) (Or.inl ⟨by rfl, ?y6⟩) (by assumption) ?r6
  case y6 =>
    intro w hSw
    try dsimp only at hSw
    go_simp
    try with_reducible rfl
  try simp only [Act.put, List.setIfInBounds_toArray, List.set_cons_zero, List.set_cons_succ]
  refine wpAnyH_take (i := 7) (oi := ⟨some 26, _, _, _, _, _⟩) (v := ?v7) rfl (by kernel_rfl) (by kernel_rfl) (by kernel_rfl) (fun _ _ _ h => h) (Or.inl ⟨by rfl, ?y7⟩) (by assumption) ?r7
  case y7 =>
    intro w hSw
    try dsimp only at hSw
    go_simp
    try with_reducible rfl
  try simp only [Act.put, List.setIfInBounds_toArray, List.set_cons_zero, List.set_cons_succ]
  refine wpAnyH_ready (rs := [2]) (by kernel_rfl) (by simp) ?_
  refine AllReadyH.cons (o := ⟨some 21, _, _, _, _, _⟩) rfl (fun K hK => ?_) AllReadyH.nil
  rw [if_pos (by rfl)]
  go_simp
  go_at_call 13
  (with_reducible refine (c5 _ _ (by assumption)).mono ?_)
  rintro e w2_ ⟨rfl, hk2_⟩
  refine hK.out _ _ (t0 _ hk2_) (fun hHeld2_ => ?_)
  clear hK K
  try simp only [Act.put, List.setIfInBounds_toArray, List.set_cons_zero, List.set_cons_succ]
  refine wpAnyH_ready (rs := [5]) (by kernel_rfl) (by simp) ?_
  refine AllReadyH.cons (o := ⟨some 24, _, _, _, _, _⟩) rfl (fun K hK => ?_) AllReadyH.nil
  rw [if_pos (by rfl)]
  go_simp
  go_at_call 13
  (with_reducible refine (c1 _ _ (by assumption)).mono ?_)
  rintro e w5_ ⟨rfl, hk5_⟩
  refine hK.out _ _ (t0 _ hk5_) (fun hHeld5_ => ?_)
  clear hK K
  try simp only [Act.put, List.setIfInBounds_toArray, List.set_cons_zero, List.set_cons_succ]
  refine wpAnyH_ready (rs := [8]) (by kernel_rfl) (by simp) ?_
  refine AllReadyH.cons (o := ⟨some 27, _, _, _, _, _⟩) rfl (fun K hK => ?_) AllReadyH.nil
  rw [if_pos (by rfl)]
  go_simp
  go_at_call 13
  (with_reducible refine (c2 _ _ (by assumption)).mono ?_)
  rintro e w8_ ⟨rfl, hk8_⟩
  refine hK.out _ _ (t0 _ hk8_) (fun hHeld8_ => ?_)
  clear hK K
  try simp only [Act.put, List.setIfInBounds_toArray, List.set_cons_zero, List.set_cons_succ]
  refine wpAnyH_take (i := 9) (oi := ⟨some 28, _, _, _, _, _⟩) (v := ?v9) rfl (by kernel_rfl) (by kernel_rfl) (by kernel_rfl) (fun _ _ _ h => h) (Or.inl ⟨by rfl, ?y9⟩) (by assumption) ?r9
  case y9 =>
    intro w hSw
    try dsimp only at hSw
    go_simp
    try with_reducible rfl
  try simp only [Act.put, List.setIfInBounds_toArray, List.set_cons_zero, List.set_cons_succ]
  refine wpAnyH_take (i := 10) (oi := ⟨some 29, _, _, _, _, _⟩) (v := ?v10) rfl (by kernel_rfl) (by kernel_rfl) (by kernel_rfl) (fun _ _ _ h => h) (Or.inl ⟨by rfl, ?y10⟩) (by assumption) ?r10
  case y10 =>
    intro w hSw
    try dsimp only at hSw
    go_simp
    try with_reducible rfl
  try simp only [Act.put, List.setIfInBounds_toArray, List.set_cons_zero, List.set_cons_succ]
  refine wpAnyH_take (i := 11) (oi := ⟨some 30, _, _, _, _, _⟩) (v := ?v11) rfl (by kernel_rfl) (by kernel_rfl) (by kernel_rfl) (fun _ _ _ h => h) (Or.inl ⟨by rfl, ?y11⟩) (by assumption) ?r11
  case y11 =>
    intro w hSw
    try dsimp only at hSw
    go_simp
    try with_reducible rfl
  try simp only [Act.put, List.setIfInBounds_toArray, List.set_cons_zero, List.set_cons_succ]
  refine wpAnyH_take (i := 12) (oi := ⟨some 31, _, _, _, _, _⟩) (v := ?v12) rfl (by kernel_rfl) (by kernel_rfl) (by kernel_rfl) (fun _ _ _ h => h) (Or.inl ⟨by rfl, ?y12⟩) (by assumption) ?r12
  case y12 =>
    intro w hSw
    try dsimp only at hSw
    go_simp
    try with_reducible rfl
  try simp only [Act.put, List.setIfInBounds_toArray, List.set_cons_zero, List.set_cons_succ]
  refine wpAnyH_take (i := 13) (oi := ⟨some 32, _, _, _, _, _⟩) (v := ?v13) rfl (by kernel_rfl) (by kernel_rfl) (by kernel_rfl) (fun _ _ _ h => h) (Or.inl ⟨by rfl, ?y13⟩) (by assumption) ?r13
  case y13 =>
    intro w hSw
    try dsimp only at hSw
    go_simp
    try with_reducible rfl
  try simp only [Act.put, List.setIfInBounds_toArray, List.set_cons_zero, List.set_cons_succ]
  refine wpAnyH_take (i := 15) (oi := ⟨some 34, _, _, _, _, _⟩) (v := ?v15) rfl (by kernel_rfl) (by kernel_rfl) (by kernel_rfl) (fun _ _ _ h => h) (Or.inl ⟨by rfl, ?y15⟩) (by assumption) ?r15
  case y15 =>
    intro w hSw
    try dsimp only at hSw
    go_simp
    try with_reducible rfl
  try simp only [Act.put, List.setIfInBounds_toArray, List.set_cons_zero, List.set_cons_succ]
  refine wpAnyH_take (i := 16) (oi := ⟨some 35, _, _, _, _, _⟩) (v := ?v16) rfl (by kernel_rfl) (by kernel_rfl) (by kernel_rfl) (fun _ _ _ h => h) (Or.inl ⟨by rfl, ?y16⟩) (by assumption) ?r16
  case y16 =>
    intro w hSw
    try dsimp only at hSw
    go_simp
    try with_reducible rfl
  try simp only [Act.put, List.setIfInBounds_toArray, List.set_cons_zero, List.set_cons_succ]
  refine wpAnyH_take (i := 18) (oi := ⟨some 37, _, _, _, _, _⟩) (v := ?v18) rfl (by kernel_rfl) (by kernel_rfl) (by kernel_rfl) (fun _ _ _ h => h) (Or.inl ⟨by rfl, ?y18⟩) (by assumption) ?r18
  case y18 =>
    intro w hSw
    try dsimp only at hSw
    go_simp
    try with_reducible rfl
  try simp only [Act.put, List.setIfInBounds_toArray, List.set_cons_zero, List.set_cons_succ]
  refine wpAnyH_take (i := 19) (oi := ⟨some 38, _, _, _, _, _⟩) (v := ?v19) rfl (by kernel_rfl) (by kernel_rfl) (by kernel_rfl) (fun _ _ _ h => h) (Or.inl ⟨by rfl, ?y19⟩) (by assumption) ?r19
  case y19 =>
    intro w hSw
    try dsimp only at hSw
    go_simp
    try with_reducible rfl
  try simp only [Act.put, List.setIfInBounds_toArray, List.set_cons_zero, List.set_cons_succ]
  refine wpAnyH_ready (rs := [14]) (by kernel_rfl) (by simp) ?_
  refine AllReadyH.cons (o := ⟨some 33, _, _, _, _, _⟩) rfl (fun K hK => ?_) AllReadyH.nil
  rw [if_pos (by rfl)]
  go_simp
  go_at_call 13
  (with_reducible refine (c6 _ _ (by assumption)).mono ?_)
  rintro e w14_ ⟨rfl, hk14_⟩
  refine hK.out _ _ (t0 _ hk14_) (fun hHeld14_ => ?_)
  clear hK K
  try simp only [Act.put, List.setIfInBounds_toArray, List.set_cons_zero, List.set_cons_succ]
  refine wpAnyH_ready (rs := [17]) (by kernel_rfl) (by simp) ?_
  refine AllReadyH.cons (o := ⟨some 36, _, _, _, _, _⟩) rfl (fun K hK => ?_) AllReadyH.nil
  rw [if_pos (by rfl)]
  go_simp
  go_at_call 13
  (with_reducible refine (c3 _ _ (by assumption)).mono ?_)
  rintro e w17_ ⟨rfl, hk17_⟩
  refine hK.out _ _ (t0 _ hk17_) (fun hHeld17_ => ?_)
  clear hK K
  try simp only [Act.put, List.setIfInBounds_toArray, List.set_cons_zero, List.set_cons_succ]
  refine wpAnyH_ready (rs := [20]) (by kernel_rfl) (by simp) ?_
  refine AllReadyH.cons (o := ⟨some 39, _, _, _, _, _⟩) rfl (fun K hK => ?_) AllReadyH.nil
  rw [if_pos (by rfl)]
  go_simp
  go_at_call 13
  (with_reducible refine (c4 _ _ (by assumption)).mono ?_)
  rintro e w20_ ⟨rfl, hk20_⟩
  refine hK.out _ _ (t0 _ hk20_) (fun hHeld20_ => ?_)
  clear hK K
  try simp only [Act.put, List.setIfInBounds_toArray, List.set_cons_zero, List.set_cons_succ]
  refine wpAnyH_take (i := 21) (oi := ⟨some 40, _, _, _, _, _⟩) (v := ?v21) rfl (by kernel_rfl) (by kernel_rfl) (by kernel_rfl) (fun _ _ _ h => h) (Or.inl ⟨by rfl, ?y21⟩) (by assumption) ?r21
  case y21 =>
    intro w hSw
    try dsimp only at hSw
    go_simp
    try with_reducible rfl
  try simp only [Act.put, List.setIfInBounds_toArray, List.set_cons_zero, List.set_cons_succ]
  refine wpAnyH_take (i := 22) (oi := ⟨some 41, _, _, _, _, _⟩) (v := ?v22) rfl (by kernel_rfl) (by kernel_rfl) (by kernel_rfl) (fun _ _ _ h => h) (Or.inl ⟨by rfl, ?y22⟩) (by assumption) ?r22
  case y22 =>
    intro w hSw
    try dsimp only at hSw
    go_simp
    try with_reducible rfl
  try simp only [Act.put, List.setIfInBounds_toArray, List.set_cons_zero, List.set_cons_succ]
  refine wpAnyH_take (i := 23) (oi := ⟨some 42, _, _, _, _, _⟩) (v := ?v23) rfl (by kernel_rfl) (by kernel_rfl) (by kernel_rfl) (fun _ _ _ h => h) (Or.inl ⟨by rfl, ?y23⟩) (by assumption) ?r23
  case y23 =>
    intro w hSw
    try dsimp only at hSw
    go_simp
    try with_reducible rfl
  try simp only [Act.put, List.setIfInBounds_toArray, List.set_cons_zero, List.set_cons_succ]
  refine wpAnyH_take (i := 24) (oi := ⟨some 43, _, _, _, _, _⟩) (v := ?v24) rfl (by kernel_rfl) (by kernel_rfl) (by kernel_rfl) (fun _ _ _ h => h) (Or.inl ⟨by rfl, ?y24⟩) (by assumption) ?r24
  case y24 =>
    intro w hSw
    try dsimp only at hSw
    go_simp
    try with_reducible rfl
  try simp only [Act.put, List.setIfInBounds_toArray, List.set_cons_zero, List.set_cons_succ]
  refine wpAnyH_take (i := 25) (oi := ⟨some 44, _, _, _, _, _⟩) (v := ?v25) rfl (by kernel_rfl) (by kernel_rfl) (by kernel_rfl) (fun _ _ _ h => h) (Or.inl ⟨by rfl, ?y25⟩) (by assumption) ?r25
  case y25 =>
    intro w hSw
    try dsimp only at hSw
    go_simp
    try with_reducible rfl
  try simp only [Act.put, List.setIfInBounds_toArray, List.set_cons_zero, List.set_cons_succ]
  refine wpAnyH_take (i := 26) (oi := ⟨some 45, _, _, _, _, _⟩) (v := ?v26) rfl (by kernel_rfl) (by kernel_rfl) (by kernel_rfl) (fun _ _ _ h => h) (Or.inl ⟨by rfl, ?y26⟩) (by assumption) ?r26
  case y26 =>
    intro w hSw
    try dsimp only at hSw
    go_simp
    try with_reducible rfl
  try simp only [Act.put, List.setIfInBounds_toArray, List.set_cons_zero, List.set_cons_succ]
  refine wpAnyH_take (i := 27) (oi := ⟨some 46, _, _, _, _, _⟩) (v := ?v27) rfl (by kernel_rfl) (by kernel_rfl) (by kernel_rfl) (fun _ _ _ h => h) (Or.inl ⟨by rfl, ?y27⟩) (by assumption) ?r27
  case y27 =>
    intro w hSw
    try dsimp only at hSw
    go_simp
    try with_reducible rfl
  try simp only [Act.put, List.setIfInBounds_toArray, List.set_cons_zero, List.set_cons_succ]
  refine wpAnyH_take (i := 29) (oi := ⟨some 48, _, _, _, _, _⟩) (v := ?v29) rfl (by kernel_rfl) (by kernel_rfl) (by kernel_rfl) (fun _ _ _ h => h) (Or.inl ⟨by rfl, ?y29⟩) (by assumption) ?r29
  case y29 =>
    intro w hSw
    try dsimp only at hSw
    go_simp
    try with_reducible rfl
  try simp only [Act.put, List.setIfInBounds_toArray, List.set_cons_zero, List.set_cons_succ]
  refine wpAnyH_take (i := 30) (oi := ⟨some 49, _, _, _, _, _⟩) (v := ?v30) rfl (by kernel_rfl) (by kernel_rfl) (by kernel_rfl) (fun _ _ _ h => h) (Or.inl ⟨by rfl, ?y30⟩) (by assumption) ?r30
  case y30 =>
    intro w hSw
    try dsimp only at hSw
    go_simp
    try with_reducible rfl
  try simp only [Act.put, List.setIfInBounds_toArray, List.set_cons_zero, List.set_cons_succ]
  refine wpAnyH_take (i := 31) (oi := ⟨some 50, _, _, _, _, _⟩) (v := ?v31) rfl (by kernel_rfl) (by kernel_rfl) (by kernel_rfl) (fun _ _ _ h => h) (Or.inl ⟨by rfl, ?y31⟩) (by assumption) ?r31
  case y31 =>
    intro w hSw
    try dsimp only at hSw
    go_simp
    try with_reducible rfl
  try simp only [Act.put, List.setIfInBounds_toArray, List.set_cons_zero, List.set_cons_succ]
  refine wpAnyH_ready (rs := [28]) (by kernel_rfl) (by simp) ?_
  refine AllReadyH.cons (o := ⟨some 47, _, _, _, _, _⟩) rfl (fun K hK => ?_) AllReadyH.nil
  rw [if_pos (by rfl)]
  go_simp
  go_at_call 14
  (with_reducible refine (c9 _ _ (by assumption)).mono ?_)
  rintro e w28_ ⟨rfl, hk28_⟩
  refine hK.out _ _ (t0 _ hk28_) (fun hHeld28_ => ?_)
  clear hK K
  try simp only [Act.put, List.setIfInBounds_toArray, List.set_cons_zero, List.set_cons_succ]
  refine wpAnyH_ready (rs := [32]) (by kernel_rfl) (by simp) ?_
  refine AllReadyH.cons (o := ⟨some 51, _, _, _, _, _⟩) rfl (fun K hK => ?_) AllReadyH.nil
  rw [if_pos (by rfl)]
  go_simp
  go_at_call 14
  (with_reducible refine (c7 _ _ (by assumption)).mono ?_)
  rintro e w32_ ⟨rfl, hk32_⟩
  refine hK.out _ _ (t0 _ hk32_) (fun hHeld32_ => ?_)
  clear hK K
  try simp only [Act.put, List.setIfInBounds_toArray, List.set_cons_zero, List.set_cons_succ]
  refine wpAnyH_take (i := 33) (oi := ⟨some 52, _, _, _, _, _⟩) (v := ?v33) rfl (by kernel_rfl) (by kernel_rfl) (by kernel_rfl) (fun _ _ _ h => h) (Or.inl ⟨by rfl, ?y33⟩) (by assumption) ?r33
  case y33 =>
    intro w hSw
    try dsimp only at hSw
    go_simp
    try with_reducible rfl
  try simp only [Act.put, List.setIfInBounds_toArray, List.set_cons_zero, List.set_cons_succ]
  refine wpAnyH_take (i := 34) (oi := ⟨some 53, _, _, _, _, _⟩) (v := undef) rfl (by kernel_rfl) (by kernel_rfl) (by kernel_rfl) (fun _ _ _ h => h) (Or.inr ⟨by rfl, rfl⟩) (by assumption) ?_
  try simp only [Act.put, List.setIfInBounds_toArray, List.set_cons_zero, List.set_cons_succ]
  refine wpAnyH_take (i := 35) (oi := ⟨some 54, _, _, _, _, _⟩) (v := undef) rfl (by kernel_rfl) (by kernel_rfl) (by kernel_rfl) (fun _ _ _ h => h) (Or.inr ⟨by rfl, rfl⟩) (by assumption) ?_
  try simp only [Act.put, List.setIfInBounds_toArray, List.set_cons_zero, List.set_cons_succ]
  refine wpAnyH_take (i := 36) (oi := ⟨some 55, _, _, _, _, _⟩) (v := undef) rfl (by kernel_rfl) (by kernel_rfl) (by kernel_rfl) (fun _ _ _ h => h) (Or.inr ⟨by rfl, rfl⟩) (by assumption) ?_
  try simp only [Act.put, List.setIfInBounds_toArray, List.set_cons_zero, List.set_cons_succ]
  refine wpAnyH_take (i := 37) (oi := ⟨some 56, _, _, _, _, _⟩) (v := undef) rfl (by kernel_rfl) (by kernel_rfl) (by kernel_rfl) (fun _ _ _ h => h) (Or.inr ⟨by rfl, rfl⟩) (by assumption) ?_
  try simp only [Act.put, List.setIfInBounds_toArray, List.set_cons_zero, List.set_cons_succ]
  refine wpAnyH_take (i := 38) (oi := ⟨some 57, _, _, _, _, _⟩) (v := ?v38) rfl (by kernel_rfl) (by kernel_rfl) (by kernel_rfl) (fun _ _ _ h => h) (Or.inl ⟨by rfl, ?y38⟩) (by assumption) ?r38
  case y38 =>
    intro w hSw
    try dsimp only at hSw
    go_simp
    try with_reducible rfl
  try simp only [Act.put, List.setIfInBounds_toArray, List.set_cons_zero, List.set_cons_succ]
  refine wpAnyH_take (i := 39) (oi := ⟨some 58, _, _, _, _, _⟩) (v := ?v39) rfl (by kernel_rfl) (by kernel_rfl) (by kernel_rfl) (fun _ _ _ h => h) (Or.inl ⟨by rfl, ?y39⟩) (by assumption) ?r39
  case y39 =>
    intro w hSw
    try dsimp only at hSw
    go_simp
    try with_reducible rfl
  try simp only [Act.put, List.setIfInBounds_toArray, List.set_cons_zero, List.set_cons_succ]
  refine wpAnyH_take (i := 40) (oi := ⟨some 59, _, _, _, _, _⟩) (v := ?v40) rfl (by kernel_rfl) (by kernel_rfl) (by kernel_rfl) (fun _ _ _ h => h) (Or.inl ⟨by rfl, ?y40⟩) (by assumption) ?r40
  case y40 =>
    intro w hSw
    try dsimp only at hSw
    go_simp
    try with_reducible rfl
  try simp only [Act.put, List.setIfInBounds_toArray, List.set_cons_zero, List.set_cons_succ]
  refine wpAnyH_take (i := 41) (oi := ⟨some 8, _, _, _, _, _⟩) (v := ?v41) rfl (by kernel_rfl) (by kernel_rfl) (by kernel_rfl) (fun _ _ _ h => h) (Or.inl ⟨by rfl, ?y41⟩) (by assumption) ?r41
  case y41 =>
    intro w hSw
    try dsimp only at hSw
    go_simp
    try with_reducible rfl
  try simp only [Act.put, List.setIfInBounds_toArray, List.set_cons_zero, List.set_cons_succ]
  refine wpAnyH_done (by kernel_rfl) (NoPanic.normal ?_) _
  go_wp2
  go_ret
  exact ⟨rfl, below_more kW (Later.b (by assumption)) (Nat.le_refl _)⟩
theorem labelJoins_walk (a b c : LabD) (o : Nat) (ha : a.ok) (hb : b.ok) (hc : c.ok) (ho : okW64 o) (w : World) (hG : Gnd7 w) :
    Calls Tryd.prog 8 #[labV a, labV b, labV c, .int .u64 o] w fun e w' => e = .returned (.bool true) ∧ Below w.heap.size w w' := by
  cases h : withB a c o
  · exact labelJoins_no a b c o ha hb hc ho _ h rfl w hG
  · exact labelJoins_yes a b c o ha hb hc ho _ h rfl w hG
end Go.Proofs.YtcodphddkkjocaaDoor
