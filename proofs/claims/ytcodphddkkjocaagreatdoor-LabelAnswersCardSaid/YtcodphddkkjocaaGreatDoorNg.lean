/- LabelAnswers' walk. -/
import Derived.Test.YtcodphddkkjocaaGreatDoorUm
import Derived.Test.YtcodphddkkjocaaGreatDoorUj
import Derived.Deep.RegionHeld3
namespace Go.Proofs.YtcodphddkkjocaaGreatDoor
open Go.RowKit Go.Deep
set_option linter.unusedVariables false

theorem labFrom_any (A : Option Addr) (c l : Nat) (zs : List Int) (p : LabD) (o : Bool) (hl : zs.length = l) (hz : isBytes zs) (hp : fromD zs = (p, o)) (w : World) (g : Good A c zs w) : Calls Tryz.prog 5 #[.slice A l c] w fun e w' => e = .returned (.tuple #[.agg #[.int .u64 p.s, .int .u64 p.t], .bool o]) ∧ Below w.heap.size w w' := by
  unfold fromD at hp
  by_cases h : zs.length = 16
  · rw [if_pos h] at hp
    obtain ⟨rfl, rfl⟩ := Prod.mk.inj hp
    obtain ⟨b, off, rfl⟩ := g.some (by omega)
    obtain rfl : l = 16 := by omega
    exact labFrom_yes b off c zs hz h w g
  · rw [if_neg h] at hp
    obtain ⟨rfl, rfl⟩ := Prod.mk.inj hp
    exact labFrom_no A c l (by omega) w
theorem refLabFrom_any (A : Option Addr) (c l : Nat) (zs : List Int) (p : LabD) (o : Bool) (hl : zs.length = l) (hz : isBytes zs) (hp : fromD zs = (p, o)) (w : World) (g : Good A c zs w) : Calls Tryz.prog 6 #[.slice A l c] w fun e w' => e = .returned (.tuple #[.agg #[.int .u64 p.s, .int .u64 p.t], .bool o]) ∧ Below w.heap.size w w' := by
  unfold fromD at hp
  by_cases h : zs.length = 16
  · rw [if_pos h] at hp
    obtain ⟨rfl, rfl⟩ := Prod.mk.inj hp
    obtain ⟨b, off, rfl⟩ := g.some (by omega)
    obtain rfl : l = 16 := by omega
    exact refLabFrom_yes b off c zs hz h w g
  · rw [if_neg h] at hp
    obtain ⟨rfl, rfl⟩ := Prod.mk.inj hp
    exact refLabFrom_no A c l (by omega) w
set_option maxRecDepth 100000 in
set_option maxHeartbeats 4000000 in
theorem labelAnswers_great (a b : LabD) (o : Nat) (A : Option Addr) (l c : Nat) (ts : ByteArray) (hbig : 100 < l ∨ (l ≤ 100 ∧ 800 < ts.size)) (w : World) (hG : Gnd7 w) :
    Calls Tryz.prog 3 #[labV a, labV b, .int .u64 o, .slice A l c, .string ts] w fun e w' => e = .returned (.bool true) ∧ Below w.heap.size w w' := by
  have kB := two_below w (.cells #[.int .u64 a.s, .int .u64 a.t] 24) (.cells #[.int .u64 b.s, .int .u64 b.t] 24)
  have cA := alive7_any _ (hG.below kB)
  obtain ⟨x1, y1⟩ := a
  obtain ⟨x2, y2⟩ := b
  unfold labV
  simp only at *
  clear hG
  rcases hbig with h | ⟨h, h2⟩
  · have hd : (100 : Int) < (l : Int) := by omega
    clear h
    go_enter Tryz.func3, Tryz.ntmps3
    go_wp2_with fail
    refine cA.mono ?_
    rintro e w1 ⟨rfl, hbl⟩
    go_wp2_with fail
    go_ret
    exact ⟨rfl, below_more kB hbl (Nat.le_refl _)⟩
  · have hd : ¬ ((100 : Int) < (l : Int)) := by omega
    have hd2 : (800 : Int) < (ts.size : Int) := by omega
    clear h h2
    go_enter Tryz.func3, Tryz.ntmps3
    go_wp2_with fail
    refine cA.mono ?_
    rintro e w1 ⟨rfl, hbl⟩
    go_wp2_with fail
    go_ret
    exact ⟨rfl, below_more kB hbl (Nat.le_refl _)⟩
set_option maxRecDepth 100000 in
set_option maxHeartbeats 40000000 in
theorem labelAnswers_small (a b p u : LabD) (o : Nat) (A : Option Addr) (l c : Nat) (zs : List Int) (ts : ByteArray) (o1 o2 : Bool) (ha : a.ok) (hb : b.ok) (ho : okW64 o) (h100 : l ≤ 100) (h800 : ts.size ≤ 800)
    (cF : ∀ W, Good A c zs W → Calls Tryz.prog 5 #[.slice A l c] W fun e w' => e = .returned (.tuple #[.agg #[.int .u64 p.s, .int .u64 p.t], .bool o1]) ∧ Below W.heap.size W w')
    (cG : ∀ W, Good A c zs W → Calls Tryz.prog 6 #[.slice A l c] W fun e w' => e = .returned (.tuple #[.agg #[.int .u64 p.s, .int .u64 p.t], .bool o1]) ∧ Below W.heap.size W w')
    (cR : ∀ W, Gnd7 W → Calls Tryz.prog 7 #[.string ts] W fun e w' => e = .returned (.tuple #[.agg #[.int .u64 u.s, .int .u64 u.t], .bool o2]) ∧ Below W.heap.size W w')
    (cQ : ∀ W, Calls Tryz.prog 8 #[.string ts] W fun e w' => e = .returned (.tuple #[.agg #[.int .u64 u.s, .int .u64 u.t], .bool o2]) ∧ Below W.heap.size W w')
    (w : World) (hg : Good A c zs w) (hG : Gnd7 w) :
    Calls Tryz.prog 3 #[labV a, labV b, .int .u64 o, .slice A l c, .string ts] w fun e w' => e = .returned (.bool true) ∧ Below w.heap.size w w' := by
  have kB := two_below w (.cells #[.int .u64 a.s, .int .u64 a.t] 24) (.cells #[.int .u64 b.s, .int .u64 b.t] 24)
  have cA := alive7_any _ (hG.below kB)
  have tN := two_new w a b 24
  have kg := (hg.alloc (.cells #[.int .u64 a.s, .int .u64 a.t] 24)).alloc (.cells #[.int .u64 b.s, .int .u64 b.t] 24)
  have hd : ¬ ((100 : Int) < (l : Int)) := by omega
  have hd2 : ¬ ((800 : Int) < (ts.size : Int)) := by omega
  clear h100 h800 hg
  obtain ⟨x1, y1⟩ := a
  obtain ⟨x2, y2⟩ := b
  obtain ⟨x3, y3⟩ := p
  obtain ⟨x4, y4⟩ := u
  obtain ⟨⟨x5, y5⟩, hj⟩ : ∃ j, joinD ⟨x1, y1⟩ ⟨x2, y2⟩ = j := ⟨_, rfl⟩
  obtain ⟨⟨x6, y6⟩, hm⟩ : ∃ m, meetD ⟨x1, y1⟩ ⟨x2, y2⟩ = m := ⟨_, rfl⟩
  obtain ⟨⟨x7, y7⟩, hr⟩ : ∃ r, raiseD ⟨x1, y1⟩ o x2 = r := ⟨_, rfl⟩
  obtain ⟨f1, h1⟩ : ∃ f, flowsB ⟨x1, y1⟩ ⟨x2, y2⟩ = f := ⟨_, rfl⟩
  obtain ⟨f2, h2⟩ : ∃ f, withB ⟨x1, y1⟩ ⟨x2, y2⟩ o = f := ⟨_, rfl⟩
  obtain ⟨n, hn⟩ : ∃ n, needN ⟨x1, y1⟩ ⟨x2, y2⟩ = n := ⟨_, rfl⟩
  obtain ⟨tl, htl⟩ : ∃ t, strB (labT x1 y1) = t := ⟨_, rfl⟩
  have g1 : ∀ W0 W, Later W0 W → Calls Tryz.prog 9 #[.agg #[.int .u64 x1, .int .u64 y1], .agg #[.int .u64 x2, .int .u64 y2]] W fun e w' => e = .returned (.bool f1) ∧ Later W0 w' := fun W0 => lift_later W0 (fun W => flows_any ⟨x1, y1⟩ ⟨x2, y2⟩ f1 ha hb h1 W)
  have g2 : ∀ W0 W, Later W0 W → Calls Tryz.prog 10 #[.agg #[.int .u64 x1, .int .u64 y1], .agg #[.int .u64 x2, .int .u64 y2], .int .u64 0] W fun e w' => e = .returned (.bool f1) ∧ Later W0 w' := fun W0 => lift_later W0 (fun W => ref_with ⟨x1, y1⟩ ⟨x2, y2⟩ 0 f1 ha hb (by decide) h1 W)
  have g3 : ∀ W0 W, Later W0 W → Calls Tryz.prog 11 #[.agg #[.int .u64 x1, .int .u64 y1], .agg #[.int .u64 x2, .int .u64 y2], .int .u64 o] W fun e w' => e = .returned (.bool f2) ∧ Later W0 w' := fun W0 => lift_later W0 (fun W => with_any ⟨x1, y1⟩ ⟨x2, y2⟩ o f2 ha hb ho h2 W)
  have g4 : ∀ W0 W, Later W0 W → Calls Tryz.prog 10 #[.agg #[.int .u64 x1, .int .u64 y1], .agg #[.int .u64 x2, .int .u64 y2], .int .u64 o] W fun e w' => e = .returned (.bool f2) ∧ Later W0 w' := fun W0 => lift_later W0 (fun W => ref_with ⟨x1, y1⟩ ⟨x2, y2⟩ o f2 ha hb ho h2 W)
  have g5 : ∀ W0 W, Later W0 W → Calls Tryz.prog 12 #[.agg #[.int .u64 x1, .int .u64 y1], .agg #[.int .u64 x2, .int .u64 y2]] W fun e w' => e = .returned (.int .u64 n) ∧ Later W0 w' := fun W0 => lift_later W0 (fun W => need_any ⟨x1, y1⟩ ⟨x2, y2⟩ n ha hb hn W)
  have g6 : ∀ W0 W, Later W0 W → Calls Tryz.prog 13 #[.agg #[.int .u64 x1, .int .u64 y1], .agg #[.int .u64 x2, .int .u64 y2]] W fun e w' => e = .returned (.int .u64 n) ∧ Later W0 w' := fun W0 => lift_later W0 (fun W => ref_need ⟨x1, y1⟩ ⟨x2, y2⟩ n ha hb hn W)
  have g7 : ∀ W0 W, Later W0 W → Calls Tryz.prog 14 #[.agg #[.int .u64 x1, .int .u64 y1], .agg #[.int .u64 x2, .int .u64 y2]] W fun e w' => e = .returned (.agg #[.int .u64 x5, .int .u64 y5]) ∧ Later W0 w' := fun W0 => lift_later W0 (fun W => join_any ⟨x1, y1⟩ ⟨x2, y2⟩ ⟨x5, y5⟩ ha hb hj W)
  have g8 : ∀ W0 W, Later W0 W → Calls Tryz.prog 15 #[.agg #[.int .u64 x1, .int .u64 y1], .agg #[.int .u64 x2, .int .u64 y2]] W fun e w' => e = .returned (.agg #[.int .u64 x5, .int .u64 y5]) ∧ Later W0 w' := fun W0 => lift_later W0 (fun W => ref_join ⟨x1, y1⟩ ⟨x2, y2⟩ ⟨x5, y5⟩ ha hb hj W)
  have g9 : ∀ W0 W, Later W0 W → Calls Tryz.prog 16 #[.agg #[.int .u64 x1, .int .u64 y1], .agg #[.int .u64 x2, .int .u64 y2]] W fun e w' => e = .returned (.agg #[.int .u64 x6, .int .u64 y6]) ∧ Later W0 w' := fun W0 => lift_later W0 (fun W => meet_any ⟨x1, y1⟩ ⟨x2, y2⟩ ⟨x6, y6⟩ ha hb hm W)
  have g10 : ∀ W0 W, Later W0 W → Calls Tryz.prog 17 #[.agg #[.int .u64 x1, .int .u64 y1], .agg #[.int .u64 x2, .int .u64 y2]] W fun e w' => e = .returned (.agg #[.int .u64 x6, .int .u64 y6]) ∧ Later W0 w' := fun W0 => lift_later W0 (fun W => ref_meet ⟨x1, y1⟩ ⟨x2, y2⟩ ⟨x6, y6⟩ ha hb hm W)
  have g11 : ∀ W0 W, Later W0 W → Calls Tryz.prog 18 #[.agg #[.int .u64 x1, .int .u64 y1], .int .u64 o, .int .u64 x2] W fun e w' => e = .returned (.agg #[.int .u64 x7, .int .u64 y7]) ∧ Later W0 w' := fun W0 => lift_later W0 (fun W => raise_any ⟨x1, y1⟩ ⟨x7, y7⟩ o x2 ha ho hb.1 hr W)
  have g12 : ∀ W0 W, Later W0 W → Calls Tryz.prog 19 #[.agg #[.int .u64 x1, .int .u64 y1], .int .u64 o, .int .u64 x2] W fun e w' => e = .returned (.agg #[.int .u64 x7, .int .u64 y7]) ∧ Later W0 w' := fun W0 => lift_later W0 (fun W => ref_raise ⟨x1, y1⟩ ⟨x7, y7⟩ o x2 ha ho hb.1 hr W)
  have g17 : ∀ W0 W, Later W0 W → Calls Tryz.prog 24 #[.agg #[.int .u64 x1, .int .u64 y1]] W fun e w' => e = .returned (.string tl) ∧ Later W0 w' := fun W0 => lift_later W0 (fun W => by rw [← htl]; exact refLabShow x1 y1 ha.1 ha.2 W)
  have gS : ∀ W, Gnd7 W → Calls Tryz.prog 23 #[.agg #[.int .u64 x1, .int .u64 y1]] W fun e w' => e = .returned (.string tl) ∧ Below W.heap.size W w' := fun W h => by rw [← htl]; exact labShow_any x1 y1 ha.1 ha.2 W h
  have g13 : ∀ W0 W, Later W0 W → Calls Tryz.prog 21 #[.agg #[.int .u64 x1, .int .u64 y1]] W fun e w' => ∃ A c, e = .returned (.slice A 16 c) ∧ Good A c (labB ⟨x1, y1⟩) w' ∧ Later W0 w' := fun W0 W h => (bytes_own x1 y1 ha.1 ha.2 W).mono fun e w' ⟨A, c, he, g, hb⟩ => ⟨A, c, he, g, h.more hb⟩
  have g14 : ∀ W0 A c W, Later W0 W → Good A c (labB ⟨x1, y1⟩) W → Calls Tryz.prog 22 #[.agg #[.int .u64 x1, .int .u64 y1]] W fun e w' => ∃ A' c', e = .returned (.slice A' 16 c') ∧ Good A' c' (labB ⟨x1, y1⟩) w' ∧ Good A c (labB ⟨x1, y1⟩) w' ∧ Later W0 w' := fun W0 A c W h g => (refLabBytes ⟨x1, y1⟩ ha W).mono fun e w' ⟨v, he, hown, hb⟩ => by
    obtain ⟨A', c', rfl, g'⟩ := hown.good
    rw [(fb x1 y1 ha.1 ha.2).1] at he
    exact ⟨A', c', he, g', g.below hb, h.more hb⟩
  have g15 : ∀ W0 A c A' c' W, Later W0 W → Good A c (labB ⟨x1, y1⟩) W → Good A' c' (labB ⟨x1, y1⟩) W → Calls Tryz.prog 20 #[.slice A 16 c, .slice A' 16 c'] W fun e w' => e = .returned (.bool true) ∧ Later W0 w' := fun W0 A c A' c' W h g g' => (sameB A A' _ _ c c' 16 16 true (fb x1 y1 ha.1 ha.2).1 (fb x1 y1 ha.1 ha.2).1 (by decide) (by decide) (by simp) W g g').mono fun e w' ⟨he, hb⟩ => ⟨he, h.more hb⟩
  have e3 : ∀ W, (binOp .eql 24 (.agg #[.int .u64 x5, .int .u64 y5]) (.agg #[.int .u64 x5, .int .u64 y5])).run Tryz.prog W = .ok (.bool true) W := fun W => by rw [run_eqL]; simp
  have e4 : ∀ W, (binOp .eql 24 (.agg #[.int .u64 x6, .int .u64 y6]) (.agg #[.int .u64 x6, .int .u64 y6])).run Tryz.prog W = .ok (.bool true) W := fun W => by rw [run_eqL]; simp
  have e5 : ∀ W, (binOp .eql 24 (.agg #[.int .u64 x7, .int .u64 y7]) (.agg #[.int .u64 x7, .int .u64 y7])).run Tryz.prog W = .ok (.bool true) W := fun W => by rw [run_eqL]; simp
  have e6 : ∀ W, (binOp .eql 24 (.agg #[.int .u64 x3, .int .u64 y3]) (.agg #[.int .u64 x3, .int .u64 y3])).run Tryz.prog W = .ok (.bool true) W := fun W => by rw [run_eqL]; simp
  have e7 : ∀ W, (binOp .eql 24 (.agg #[.int .u64 x4, .int .u64 y4]) (.agg #[.int .u64 x4, .int .u64 y4])).run Tryz.prog W = .ok (.bool true) W := fun W => by rw [run_eqL]; simp
  clear hj hm hr h1 h2 hn htl ha hb ho
  unfold labV
  simp only at *
  go_enter Tryz.func3, Tryz.ntmps3
  go_wp2_with fail
  refine cA.mono ?_
  rintro e w1 ⟨rfl, hbl⟩
  have q := tN.later ⟨hbl⟩
  have kb := below_more kB hbl (Nat.le_refl _)
  have kg := kg.below hbl
  clear tN kB hbl cA
  go_wp2_with fail
  refine (cF _ kg).mono ?_
  rintro e w2 ⟨rfl, hk⟩
  have zz := later_alloc w2 (.cells #[.int .u64 x3, .int .u64 y3] 24)
  have nbx := LabBox.new w2 x3 y3 24
  have q := (q.later ⟨hk⟩).later zz
  have kb := below_more (below_more kb hk (Nat.le_refl _)) zz.b (Nat.le_refl _)
  have kg := (kg.below hk).alloc (.cells #[.int .u64 x3, .int .u64 y3] 24)
  clear hk zz
  go_wp2_with fail
  refine (cG _ kg).mono ?_
  rintro e w3 ⟨rfl, hk⟩
  have zz := later_alloc w3 (.cells #[.int .u64 x3, .int .u64 y3] 24)
  have nby_ := LabBox.new w3 x3 y3 24
  have q := (q.later ⟨hk⟩).later zz
  have nbx := (nbx.later ⟨hk⟩).later zz
  have kb := below_more (below_more kb hk (Nat.le_refl _)) zz.b (Nat.le_refl _)
  have kg := (kg.below hk).alloc (.cells #[.int .u64 x3, .int .u64 y3] 24)
  clear hk zz
  go_wp2_with fail
  refine (cR _ (hG.below kb)).mono ?_
  rintro e w4 ⟨rfl, hk⟩
  have zz := later_alloc w4 (.cells #[.int .u64 x4, .int .u64 y4] 24)
  have nbu := LabBox.new w4 x4 y4 24
  have q := (q.later ⟨hk⟩).later zz
  have nbx := (nbx.later ⟨hk⟩).later zz
  have nby_ := (nby_.later ⟨hk⟩).later zz
  have kb := below_more (below_more kb hk (Nat.le_refl _)) zz.b (Nat.le_refl _)
  have kg := (kg.below hk).alloc (.cells #[.int .u64 x4, .int .u64 y4] 24)
  clear hk zz
  go_wp2_with fail
  refine (cQ _ ).mono ?_
  rintro e w5 ⟨rfl, hk⟩
  have zz := later_alloc w5 (.cells #[.int .u64 x4, .int .u64 y4] 24)
  have nbv := LabBox.new w5 x4 y4 24
  have q := (q.later ⟨hk⟩).later zz
  have nbx := (nbx.later ⟨hk⟩).later zz
  have nby_ := (nby_.later ⟨hk⟩).later zz
  have nbu := (nbu.later ⟨hk⟩).later zz
  have kb := below_more (below_more kb hk (Nat.le_refl _)) zz.b (Nat.le_refl _)
  have kg := (kg.below hk).alloc (.cells #[.int .u64 x4, .int .u64 y4] 24)
  clear hk zz
  have hG0 := hG.below kb
  go_wp2_with fail
  generalize w5.alloc (.cells #[.int .u64 x4, .int .u64 y4] 24) = W0 at *
  have t0 : ∀ W, Later W0 W → (W.cell? ⟨w.heap.size, 0, none⟩ = some (.int .u64 x1) ∧ W.cell? ⟨w.heap.size, 1, none⟩ = some (.int .u64 y1) ∧ W.cell? ⟨w.heap.size + 1, 0, none⟩ = some (.int .u64 x2) ∧ W.cell? ⟨w.heap.size + 1, 1, none⟩ = some (.int .u64 y2) ∧ W.cell? ⟨w2.heap.size, 0, none⟩ = some (.int .u64 x3) ∧ W.cell? ⟨w2.heap.size, 1, none⟩ = some (.int .u64 y3) ∧ W.cell? ⟨w3.heap.size, 0, none⟩ = some (.int .u64 x3) ∧ W.cell? ⟨w3.heap.size, 1, none⟩ = some (.int .u64 y3) ∧ W.cell? ⟨w4.heap.size, 0, none⟩ = some (.int .u64 x4) ∧ W.cell? ⟨w4.heap.size, 1, none⟩ = some (.int .u64 y4) ∧ W.cell? ⟨w5.heap.size, 0, none⟩ = some (.int .u64 x4) ∧ W.cell? ⟨w5.heap.size, 1, none⟩ = some (.int .u64 y4)) := fun W hW => ⟨(q.later hW).a.c0, (q.later hW).a.c1, (q.later hW).b.c0, (q.later hW).b.c1, (nbx.later hW).c0, (nbx.later hW).c1, (nby_.later hW).c0, (nby_.later hW).c1, (nbu.later hW).c0, (nbu.later hW).c1, (nbv.later hW).c0, (nbv.later hW).c1⟩
  have g16 := lift_laterG W0 hG0 gS
  clear q nbx nby_ nbu nbv hG hG0 gS cF cG cR cQ kg hd hd2
  have l0 := (Later.refl W0).drew
  refine wp_region_noPanic ?_
  refine wp_region_held_drew (S := fun w' => (w'.cell? ⟨w.heap.size, 0, none⟩ = some (.int .u64 x1) ∧ w'.cell? ⟨w.heap.size, 1, none⟩ = some (.int .u64 y1) ∧ w'.cell? ⟨w.heap.size + 1, 0, none⟩ = some (.int .u64 x2) ∧ w'.cell? ⟨w.heap.size + 1, 1, none⟩ = some (.int .u64 y2) ∧ w'.cell? ⟨w2.heap.size, 0, none⟩ = some (.int .u64 x3) ∧ w'.cell? ⟨w2.heap.size, 1, none⟩ = some (.int .u64 y3) ∧ w'.cell? ⟨w3.heap.size, 0, none⟩ = some (.int .u64 x3) ∧ w'.cell? ⟨w3.heap.size, 1, none⟩ = some (.int .u64 y3) ∧ w'.cell? ⟨w4.heap.size, 0, none⟩ = some (.int .u64 x4) ∧ w'.cell? ⟨w4.heap.size, 1, none⟩ = some (.int .u64 y4) ∧ w'.cell? ⟨w5.heap.size, 0, none⟩ = some (.int .u64 x4) ∧ w'.cell? ⟨w5.heap.size, 1, none⟩ = some (.int .u64 y4))) (by kernel_rfl) (t0 _ l0) (fun hHeld => ?_)
  refine wpAnyH_take (i := 0) (oi := ⟨some 49, _, _, _, _, _⟩) (v := ?v0) rfl (by kernel_rfl) (by kernel_rfl) (by kernel_rfl) (fun _ _ _ h => h) (Or.inl ⟨by rfl, ?y0⟩) (by assumption) ?r0
  case y0 =>
    intro w hSw
    try dsimp only at hSw
    go_simp
    try with_reducible rfl
  try simp only [Act.put, List.setIfInBounds_toArray, List.set_cons_zero, List.set_cons_succ]
  refine wpAnyH_take (i := 1) (oi := ⟨some 50, _, _, _, _, _⟩) (v := ?v1) rfl (by kernel_rfl) (by kernel_rfl) (by kernel_rfl) (fun _ _ _ h => h) (Or.inl ⟨by rfl, ?y1⟩) (by assumption) ?r1
  case y1 =>
    intro w hSw
    try dsimp only at hSw
    go_simp
    try with_reducible rfl
  try simp only [Act.put, List.setIfInBounds_toArray, List.set_cons_zero, List.set_cons_succ]
  refine wpAnyH_take (i := 3) (oi := ⟨some 52, _, _, _, _, _⟩) (v := ?v3) rfl (by kernel_rfl) (by kernel_rfl) (by kernel_rfl) (fun _ _ _ h => h) (Or.inl ⟨by rfl, ?y3⟩) (by assumption) ?r3
  case y3 =>
    intro w hSw
    try dsimp only at hSw
    go_simp
    try with_reducible rfl
  try simp only [Act.put, List.setIfInBounds_toArray, List.set_cons_zero, List.set_cons_succ]
  refine wpAnyH_take (i := 4) (oi := ⟨some 53, _, _, _, _, _⟩) (v := ?v4) rfl (by kernel_rfl) (by kernel_rfl) (by kernel_rfl) (fun _ _ _ h => h) (Or.inl ⟨by rfl, ?y4⟩) (by assumption) ?r4
  case y4 =>
    intro w hSw
    try dsimp only at hSw
    go_simp
    try with_reducible rfl
  try simp only [Act.put, List.setIfInBounds_toArray, List.set_cons_zero, List.set_cons_succ]
  refine wpAnyH_ready (rs := [2]) (by kernel_rfl) (by simp) ?_
  refine AllReadyH.cons (o := ⟨some 51, _, _, _, _, _⟩) rfl (fun K hK => ?_) AllReadyH.nil
  rw [if_pos (by rfl)]
  go_simp
  go_at_call 9
  (with_reducible refine (g1 _ _ (by assumption)).mono ?_)
  rintro e u2_ ⟨rfl, hk2_⟩
  refine hK.out _ _ (t0 _ hk2_) (fun hHeld => ?_)
  clear hK K l0 g1
  try simp only [Act.put, List.setIfInBounds_toArray, List.set_cons_zero, List.set_cons_succ]
  as_aux_lemma =>
   refine wpAnyH_ready (rs := [5]) (by kernel_rfl) (by simp) ?_
   refine AllReadyH.cons (o := ⟨some 54, _, _, _, _, _⟩) rfl (fun K hK => ?_) AllReadyH.nil
   rw [if_pos (by rfl)]
   go_simp
   go_at_call 10
   (with_reducible refine (g2 _ _ (by assumption)).mono ?_)
   rintro e u5_ ⟨rfl, hk5_⟩
   refine hK.out _ _ (t0 _ hk5_) (fun hHeld => ?_)
   clear hK K hk2_ g2
   try simp only [Act.put, List.setIfInBounds_toArray, List.set_cons_zero, List.set_cons_succ]
   as_aux_lemma =>
    refine wpAnyH_take (i := 6) (oi := ⟨some 55, _, _, _, _, _⟩) (v := ?v6) rfl (by kernel_rfl) (by kernel_rfl) (by kernel_rfl) (fun _ _ _ h => h) (Or.inl ⟨by rfl, ?y6⟩) (by assumption) ?r6
    case y6 =>
      intro w hSw
      try dsimp only at hSw
      go_simp
      try with_reducible rfl
    try simp only [Act.put, List.setIfInBounds_toArray, List.set_cons_zero, List.set_cons_succ]
    refine wpAnyH_take (i := 7) (oi := ⟨some 56, _, _, _, _, _⟩) (v := ?v7) rfl (by kernel_rfl) (by kernel_rfl) (by kernel_rfl) (fun _ _ _ h => h) (Or.inl ⟨by rfl, ?y7⟩) (by assumption) ?r7
    case y7 =>
      intro w hSw
      try dsimp only at hSw
      go_simp
      try with_reducible rfl
    try simp only [Act.put, List.setIfInBounds_toArray, List.set_cons_zero, List.set_cons_succ]
    refine wpAnyH_take (i := 8) (oi := ⟨some 57, _, _, _, _, _⟩) (v := ?v8) rfl (by kernel_rfl) (by kernel_rfl) (by kernel_rfl) (fun _ _ _ h => h) (Or.inl ⟨by rfl, ?y8⟩) (by assumption) ?r8
    case y8 =>
      intro w hSw
      try dsimp only at hSw
      go_simp
      try with_reducible rfl
    try simp only [Act.put, List.setIfInBounds_toArray, List.set_cons_zero, List.set_cons_succ]
    refine wpAnyH_take (i := 9) (oi := ⟨some 58, _, _, _, _, _⟩) (v := ?v9) rfl (by kernel_rfl) (by kernel_rfl) (by kernel_rfl) (fun _ _ _ h => h) (Or.inl ⟨by rfl, ?y9⟩) (by assumption) ?r9
    case y9 =>
      intro w hSw
      try dsimp only at hSw
      go_simp
      try with_reducible rfl
    try simp only [Act.put, List.setIfInBounds_toArray, List.set_cons_zero, List.set_cons_succ]
    refine wpAnyH_take (i := 10) (oi := ⟨some 59, _, _, _, _, _⟩) (v := ?v10) rfl (by kernel_rfl) (by kernel_rfl) (by kernel_rfl) (fun _ _ _ h => h) (Or.inl ⟨by rfl, ?y10⟩) (by assumption) ?r10
    case y10 =>
      intro w hSw
      try dsimp only at hSw
      go_simp
      try with_reducible rfl
    try simp only [Act.put, List.setIfInBounds_toArray, List.set_cons_zero, List.set_cons_succ]
    refine wpAnyH_take (i := 12) (oi := ⟨some 61, _, _, _, _, _⟩) (v := ?v12) rfl (by kernel_rfl) (by kernel_rfl) (by kernel_rfl) (fun _ _ _ h => h) (Or.inl ⟨by rfl, ?y12⟩) (by assumption) ?r12
    case y12 =>
      intro w hSw
      try dsimp only at hSw
      go_simp
      try with_reducible rfl
    try simp only [Act.put, List.setIfInBounds_toArray, List.set_cons_zero, List.set_cons_succ]
    refine wpAnyH_take (i := 13) (oi := ⟨some 62, _, _, _, _, _⟩) (v := ?v13) rfl (by kernel_rfl) (by kernel_rfl) (by kernel_rfl) (fun _ _ _ h => h) (Or.inl ⟨by rfl, ?y13⟩) (by assumption) ?r13
    case y13 =>
      intro w hSw
      try dsimp only at hSw
      go_simp
      try with_reducible rfl
    try simp only [Act.put, List.setIfInBounds_toArray, List.set_cons_zero, List.set_cons_succ]
    refine wpAnyH_take (i := 14) (oi := ⟨some 63, _, _, _, _, _⟩) (v := ?v14) rfl (by kernel_rfl) (by kernel_rfl) (by kernel_rfl) (fun _ _ _ h => h) (Or.inl ⟨by rfl, ?y14⟩) (by assumption) ?r14
    case y14 =>
      intro w hSw
      try dsimp only at hSw
      go_simp
      try with_reducible rfl
    try simp only [Act.put, List.setIfInBounds_toArray, List.set_cons_zero, List.set_cons_succ]
    refine wpAnyH_ready (rs := [11]) (by kernel_rfl) (by simp) ?_
    refine AllReadyH.cons (o := ⟨some 60, _, _, _, _, _⟩) rfl (fun K hK => ?_) AllReadyH.nil
    rw [if_pos (by rfl)]
    go_simp
    go_at_call 11
    (with_reducible refine (g3 _ _ (by assumption)).mono ?_)
    rintro e u11_ ⟨rfl, hk11_⟩
    refine hK.out _ _ (t0 _ hk11_) (fun hHeld => ?_)
    clear hK K hk5_ g3
    try simp only [Act.put, List.setIfInBounds_toArray, List.set_cons_zero, List.set_cons_succ]
    as_aux_lemma =>
     refine wpAnyH_ready (rs := [15]) (by kernel_rfl) (by simp) ?_
     refine AllReadyH.cons (o := ⟨some 64, _, _, _, _, _⟩) rfl (fun K hK => ?_) AllReadyH.nil
     rw [if_pos (by rfl)]
     go_simp
     go_at_call 10
     (with_reducible refine (g4 _ _ (by assumption)).mono ?_)
     rintro e u15_ ⟨rfl, hk15_⟩
     refine hK.out _ _ (t0 _ hk15_) (fun hHeld => ?_)
     clear hK K hk11_ g4
     try simp only [Act.put, List.setIfInBounds_toArray, List.set_cons_zero, List.set_cons_succ]
     as_aux_lemma =>
      refine wpAnyH_take (i := 16) (oi := ⟨some 65, _, _, _, _, _⟩) (v := ?v16) rfl (by kernel_rfl) (by kernel_rfl) (by kernel_rfl) (fun _ _ _ h => h) (Or.inl ⟨by rfl, ?y16⟩) (by assumption) ?r16
      case y16 =>
        intro w hSw
        try dsimp only at hSw
        go_simp
        try with_reducible rfl
      try simp only [Act.put, List.setIfInBounds_toArray, List.set_cons_zero, List.set_cons_succ]
      refine wpAnyH_take (i := 17) (oi := ⟨some 66, _, _, _, _, _⟩) (v := ?v17) rfl (by kernel_rfl) (by kernel_rfl) (by kernel_rfl) (fun _ _ _ h => h) (Or.inl ⟨by rfl, ?y17⟩) (by assumption) ?r17
      case y17 =>
        intro w hSw
        try dsimp only at hSw
        go_simp
        try with_reducible rfl
      try simp only [Act.put, List.setIfInBounds_toArray, List.set_cons_zero, List.set_cons_succ]
      refine wpAnyH_take (i := 18) (oi := ⟨some 67, _, _, _, _, _⟩) (v := ?v18) rfl (by kernel_rfl) (by kernel_rfl) (by kernel_rfl) (fun _ _ _ h => h) (Or.inl ⟨by rfl, ?y18⟩) (by assumption) ?r18
      case y18 =>
        intro w hSw
        try dsimp only at hSw
        go_simp
        try with_reducible rfl
      try simp only [Act.put, List.setIfInBounds_toArray, List.set_cons_zero, List.set_cons_succ]
      refine wpAnyH_take (i := 19) (oi := ⟨some 68, _, _, _, _, _⟩) (v := ?v19) rfl (by kernel_rfl) (by kernel_rfl) (by kernel_rfl) (fun _ _ _ h => h) (Or.inl ⟨by rfl, ?y19⟩) (by assumption) ?r19
      case y19 =>
        intro w hSw
        try dsimp only at hSw
        go_simp
        try with_reducible rfl
      try simp only [Act.put, List.setIfInBounds_toArray, List.set_cons_zero, List.set_cons_succ]
      refine wpAnyH_take (i := 20) (oi := ⟨some 69, _, _, _, _, _⟩) (v := ?v20) rfl (by kernel_rfl) (by kernel_rfl) (by kernel_rfl) (fun _ _ _ h => h) (Or.inl ⟨by rfl, ?y20⟩) (by assumption) ?r20
      case y20 =>
        intro w hSw
        try dsimp only at hSw
        go_simp
        try with_reducible rfl
      try simp only [Act.put, List.setIfInBounds_toArray, List.set_cons_zero, List.set_cons_succ]
      refine wpAnyH_take (i := 22) (oi := ⟨some 71, _, _, _, _, _⟩) (v := ?v22) rfl (by kernel_rfl) (by kernel_rfl) (by kernel_rfl) (fun _ _ _ h => h) (Or.inl ⟨by rfl, ?y22⟩) (by assumption) ?r22
      case y22 =>
        intro w hSw
        try dsimp only at hSw
        go_simp
        try with_reducible rfl
      try simp only [Act.put, List.setIfInBounds_toArray, List.set_cons_zero, List.set_cons_succ]
      refine wpAnyH_take (i := 23) (oi := ⟨some 72, _, _, _, _, _⟩) (v := ?v23) rfl (by kernel_rfl) (by kernel_rfl) (by kernel_rfl) (fun _ _ _ h => h) (Or.inl ⟨by rfl, ?y23⟩) (by assumption) ?r23
      case y23 =>
        intro w hSw
        try dsimp only at hSw
        go_simp
        try with_reducible rfl
      try simp only [Act.put, List.setIfInBounds_toArray, List.set_cons_zero, List.set_cons_succ]
      refine wpAnyH_ready (rs := [21]) (by kernel_rfl) (by simp) ?_
      refine AllReadyH.cons (o := ⟨some 70, _, _, _, _, _⟩) rfl (fun K hK => ?_) AllReadyH.nil
      rw [if_pos (by rfl)]
      go_simp
      go_at_call 12
      (with_reducible refine (g5 _ _ (by assumption)).mono ?_)
      rintro e u21_ ⟨rfl, hk21_⟩
      refine hK.out _ _ (t0 _ hk21_) (fun hHeld => ?_)
      clear hK K hk15_ g5
      try simp only [Act.put, List.setIfInBounds_toArray, List.set_cons_zero, List.set_cons_succ]
      as_aux_lemma =>
       refine wpAnyH_ready (rs := [24]) (by kernel_rfl) (by simp) ?_
       refine AllReadyH.cons (o := ⟨some 73, _, _, _, _, _⟩) rfl (fun K hK => ?_) AllReadyH.nil
       rw [if_pos (by rfl)]
       go_simp
       go_at_call 13
       (with_reducible refine (g6 _ _ (by assumption)).mono ?_)
       rintro e u24_ ⟨rfl, hk24_⟩
       refine hK.out _ _ (t0 _ hk24_) (fun hHeld => ?_)
       clear hK K hk21_ g6
       try simp only [Act.put, List.setIfInBounds_toArray, List.set_cons_zero, List.set_cons_succ]
       as_aux_lemma =>
        refine wpAnyH_take (i := 25) (oi := ⟨some 74, _, _, _, _, _⟩) (v := ?v25) rfl (by kernel_rfl) (by kernel_rfl) (by kernel_rfl) (fun _ _ _ h => h) (Or.inl ⟨by rfl, ?y25⟩) (by assumption) ?r25
        case y25 =>
          intro w hSw
          try dsimp only at hSw
          go_simp
          try with_reducible rfl
        try simp only [Act.put, List.setIfInBounds_toArray, List.set_cons_zero, List.set_cons_succ]
        refine wpAnyH_take (i := 26) (oi := ⟨some 75, _, _, _, _, _⟩) (v := ?v26) rfl (by kernel_rfl) (by kernel_rfl) (by kernel_rfl) (fun _ _ _ h => h) (Or.inl ⟨by rfl, ?y26⟩) (by assumption) ?r26
        case y26 =>
          intro w hSw
          try dsimp only at hSw
          go_simp
          try with_reducible rfl
        try simp only [Act.put, List.setIfInBounds_toArray, List.set_cons_zero, List.set_cons_succ]
        refine wpAnyH_take (i := 27) (oi := ⟨some 76, _, _, _, _, _⟩) (v := ?v27) rfl (by kernel_rfl) (by kernel_rfl) (by kernel_rfl) (fun _ _ _ h => h) (Or.inl ⟨by rfl, ?y27⟩) (by assumption) ?r27
        case y27 =>
          intro w hSw
          try dsimp only at hSw
          go_simp
          try with_reducible rfl
        try simp only [Act.put, List.setIfInBounds_toArray, List.set_cons_zero, List.set_cons_succ]
        refine wpAnyH_take (i := 28) (oi := ⟨some 77, _, _, _, _, _⟩) (v := ?v28) rfl (by kernel_rfl) (by kernel_rfl) (by kernel_rfl) (fun _ _ _ h => h) (Or.inl ⟨by rfl, ?y28⟩) (by assumption) ?r28
        case y28 =>
          intro w hSw
          try dsimp only at hSw
          go_simp
          try with_reducible rfl
        try simp only [Act.put, List.setIfInBounds_toArray, List.set_cons_zero, List.set_cons_succ]
        refine wpAnyH_take (i := 29) (oi := ⟨some 78, _, _, _, _, _⟩) (v := ?v29) rfl (by kernel_rfl) (by kernel_rfl) (by kernel_rfl) (fun _ _ _ h => h) (Or.inl ⟨by rfl, ?y29⟩) (by assumption) ?r29
        case y29 =>
          intro w hSw
          try dsimp only at hSw
          go_simp
          try with_reducible rfl
        try simp only [Act.put, List.setIfInBounds_toArray, List.set_cons_zero, List.set_cons_succ]
        refine wpAnyH_take (i := 31) (oi := ⟨some 80, _, _, _, _, _⟩) (v := ?v31) rfl (by kernel_rfl) (by kernel_rfl) (by kernel_rfl) (fun _ _ _ h => h) (Or.inl ⟨by rfl, ?y31⟩) (by assumption) ?r31
        case y31 =>
          intro w hSw
          try dsimp only at hSw
          go_simp
          try with_reducible rfl
        try simp only [Act.put, List.setIfInBounds_toArray, List.set_cons_zero, List.set_cons_succ]
        refine wpAnyH_take (i := 32) (oi := ⟨some 81, _, _, _, _, _⟩) (v := ?v32) rfl (by kernel_rfl) (by kernel_rfl) (by kernel_rfl) (fun _ _ _ h => h) (Or.inl ⟨by rfl, ?y32⟩) (by assumption) ?r32
        case y32 =>
          intro w hSw
          try dsimp only at hSw
          go_simp
          try with_reducible rfl
        try simp only [Act.put, List.setIfInBounds_toArray, List.set_cons_zero, List.set_cons_succ]
        refine wpAnyH_ready (rs := [30]) (by kernel_rfl) (by simp) ?_
        refine AllReadyH.cons (o := ⟨some 79, _, _, _, _, _⟩) rfl (fun K hK => ?_) AllReadyH.nil
        rw [if_pos (by rfl)]
        go_simp
        go_at_call 14
        (with_reducible refine (g7 _ _ (by assumption)).mono ?_)
        rintro e u30_ ⟨rfl, hk30_⟩
        refine hK.out _ _ (t0 _ hk30_) (fun hHeld => ?_)
        clear hK K hk24_ g7
        try simp only [Act.put, List.setIfInBounds_toArray, List.set_cons_zero, List.set_cons_succ]
        as_aux_lemma =>
         refine wpAnyH_ready (rs := [33]) (by kernel_rfl) (by simp) ?_
         refine AllReadyH.cons (o := ⟨some 82, _, _, _, _, _⟩) rfl (fun K hK => ?_) AllReadyH.nil
         rw [if_pos (by rfl)]
         go_simp
         go_at_call 15
         (with_reducible refine (g8 _ _ (by assumption)).mono ?_)
         rintro e u33_ ⟨rfl, hk33_⟩
         refine hK.out _ _ (t0 _ hk33_) (fun hHeld => ?_)
         clear hK K hk30_ g8
         try simp only [Act.put, List.setIfInBounds_toArray, List.set_cons_zero, List.set_cons_succ]
         as_aux_lemma =>
          refine wpAnyH_take (i := 34) (oi := ⟨some 83, _, _, _, _, _⟩) (v := ?v34) rfl (by kernel_rfl) (by kernel_rfl) (by kernel_rfl) (fun _ _ _ h => h) (Or.inl ⟨by rfl, ?y34⟩) (by assumption) ?r34
          case y34 =>
            intro w hSw
            try dsimp only at hSw
            go_simp
            try with_reducible rfl
          try simp only [Act.put, List.setIfInBounds_toArray, List.set_cons_zero, List.set_cons_succ]
          refine wpAnyH_take (i := 35) (oi := ⟨some 84, _, _, _, _, _⟩) (v := ?v35) rfl (by kernel_rfl) (by kernel_rfl) (by kernel_rfl) (fun _ _ _ h => h) (Or.inl ⟨by rfl, ?y35⟩) (by assumption) ?r35
          case y35 =>
            intro w hSw
            try dsimp only at hSw
            go_simp
            try with_reducible rfl
          try simp only [Act.put, List.setIfInBounds_toArray, List.set_cons_zero, List.set_cons_succ]
          refine wpAnyH_take (i := 36) (oi := ⟨some 85, _, _, _, _, _⟩) (v := ?v36) rfl (by kernel_rfl) (by kernel_rfl) (by kernel_rfl) (fun _ _ _ h => h) (Or.inl ⟨by rfl, ?y36⟩) (by assumption) ?r36
          case y36 =>
            intro w hSw
            try dsimp only at hSw
            go_simp
            try with_reducible rfl
          try simp only [Act.put, List.setIfInBounds_toArray, List.set_cons_zero, List.set_cons_succ]
          refine wpAnyH_take (i := 37) (oi := ⟨some 86, _, _, _, _, _⟩) (v := ?v37) rfl (by kernel_rfl) (by kernel_rfl) (by kernel_rfl) (fun _ _ _ h => h) (Or.inl ⟨by rfl, ?y37⟩) (by assumption) ?r37
          case y37 =>
            intro w hSw
            try dsimp only at hSw
            go_simp
            try with_reducible rfl
          try simp only [Act.put, List.setIfInBounds_toArray, List.set_cons_zero, List.set_cons_succ]
          refine wpAnyH_take (i := 38) (oi := ⟨some 87, _, _, _, _, _⟩) (v := ?v38) rfl (by kernel_rfl) (by kernel_rfl) (by kernel_rfl) (fun _ _ _ h => h) (Or.inl ⟨by rfl, ?y38⟩) (by assumption) ?r38
          case y38 =>
            intro w hSw
            try dsimp only at hSw
            go_simp
            try with_reducible rfl
          try simp only [Act.put, List.setIfInBounds_toArray, List.set_cons_zero, List.set_cons_succ]
          refine wpAnyH_take (i := 40) (oi := ⟨some 89, _, _, _, _, _⟩) (v := ?v40) rfl (by kernel_rfl) (by kernel_rfl) (by kernel_rfl) (fun _ _ _ h => h) (Or.inl ⟨by rfl, ?y40⟩) (by assumption) ?r40
          case y40 =>
            intro w hSw
            try dsimp only at hSw
            go_simp
            try with_reducible rfl
          try simp only [Act.put, List.setIfInBounds_toArray, List.set_cons_zero, List.set_cons_succ]
          refine wpAnyH_take (i := 41) (oi := ⟨some 90, _, _, _, _, _⟩) (v := ?v41) rfl (by kernel_rfl) (by kernel_rfl) (by kernel_rfl) (fun _ _ _ h => h) (Or.inl ⟨by rfl, ?y41⟩) (by assumption) ?r41
          case y41 =>
            intro w hSw
            try dsimp only at hSw
            go_simp
            try with_reducible rfl
          try simp only [Act.put, List.setIfInBounds_toArray, List.set_cons_zero, List.set_cons_succ]
          refine wpAnyH_ready (rs := [39]) (by kernel_rfl) (by simp) ?_
          refine AllReadyH.cons (o := ⟨some 88, _, _, _, _, _⟩) rfl (fun K hK => ?_) AllReadyH.nil
          rw [if_pos (by rfl)]
          go_simp
          go_at_call 16
          (with_reducible refine (g9 _ _ (by assumption)).mono ?_)
          rintro e u39_ ⟨rfl, hk39_⟩
          refine hK.out _ _ (t0 _ hk39_) (fun hHeld => ?_)
          clear hK K hk33_ g9
          try simp only [Act.put, List.setIfInBounds_toArray, List.set_cons_zero, List.set_cons_succ]
          as_aux_lemma =>
           refine wpAnyH_ready (rs := [42]) (by kernel_rfl) (by simp) ?_
           refine AllReadyH.cons (o := ⟨some 91, _, _, _, _, _⟩) rfl (fun K hK => ?_) AllReadyH.nil
           rw [if_pos (by rfl)]
           go_simp
           go_at_call 17
           (with_reducible refine (g10 _ _ (by assumption)).mono ?_)
           rintro e u42_ ⟨rfl, hk42_⟩
           refine hK.out _ _ (t0 _ hk42_) (fun hHeld => ?_)
           clear hK K hk39_ g10
           try simp only [Act.put, List.setIfInBounds_toArray, List.set_cons_zero, List.set_cons_succ]
           as_aux_lemma =>
            refine wpAnyH_take (i := 43) (oi := ⟨some 92, _, _, _, _, _⟩) (v := ?v43) rfl (by kernel_rfl) (by kernel_rfl) (by kernel_rfl) (fun _ _ _ h => h) (Or.inl ⟨by rfl, ?y43⟩) (by assumption) ?r43
            case y43 =>
              intro w hSw
              try dsimp only at hSw
              go_simp
              try with_reducible rfl
            try simp only [Act.put, List.setIfInBounds_toArray, List.set_cons_zero, List.set_cons_succ]
            refine wpAnyH_take (i := 44) (oi := ⟨some 93, _, _, _, _, _⟩) (v := ?v44) rfl (by kernel_rfl) (by kernel_rfl) (by kernel_rfl) (fun _ _ _ h => h) (Or.inl ⟨by rfl, ?y44⟩) (by assumption) ?r44
            case y44 =>
              intro w hSw
              try dsimp only at hSw
              go_simp
              try with_reducible rfl
            try simp only [Act.put, List.setIfInBounds_toArray, List.set_cons_zero, List.set_cons_succ]
            refine wpAnyH_take (i := 45) (oi := ⟨some 94, _, _, _, _, _⟩) (v := ?v45) rfl (by kernel_rfl) (by kernel_rfl) (by kernel_rfl) (fun _ _ _ h => h) (Or.inl ⟨by rfl, ?y45⟩) (by assumption) ?r45
            case y45 =>
              intro w hSw
              try dsimp only at hSw
              go_simp
              try with_reducible rfl
            try simp only [Act.put, List.setIfInBounds_toArray, List.set_cons_zero, List.set_cons_succ]
            refine wpAnyH_take (i := 46) (oi := ⟨some 95, _, _, _, _, _⟩) (v := ?v46) rfl (by kernel_rfl) (by kernel_rfl) (by kernel_rfl) (fun _ _ _ h => h) (Or.inl ⟨by rfl, ?y46⟩) (by assumption) ?r46
            case y46 =>
              intro w hSw
              try dsimp only at hSw
              go_simp
              try with_reducible rfl
            try simp only [Act.put, List.setIfInBounds_toArray, List.set_cons_zero, List.set_cons_succ]
            refine wpAnyH_take (i := 47) (oi := ⟨some 96, _, _, _, _, _⟩) (v := ?v47) rfl (by kernel_rfl) (by kernel_rfl) (by kernel_rfl) (fun _ _ _ h => h) (Or.inl ⟨by rfl, ?y47⟩) (by assumption) ?r47
            case y47 =>
              intro w hSw
              try dsimp only at hSw
              go_simp
              try with_reducible rfl
            try simp only [Act.put, List.setIfInBounds_toArray, List.set_cons_zero, List.set_cons_succ]
            refine wpAnyH_take (i := 48) (oi := ⟨some 97, _, _, _, _, _⟩) (v := ?v48) rfl (by kernel_rfl) (by kernel_rfl) (by kernel_rfl) (fun _ _ _ h => h) (Or.inl ⟨by rfl, ?y48⟩) (by assumption) ?r48
            case y48 =>
              intro w hSw
              try dsimp only at hSw
              go_simp
              try with_reducible rfl
            try simp only [Act.put, List.setIfInBounds_toArray, List.set_cons_zero, List.set_cons_succ]
            refine wpAnyH_take (i := 49) (oi := ⟨some 98, _, _, _, _, _⟩) (v := ?v49) rfl (by kernel_rfl) (by kernel_rfl) (by kernel_rfl) (fun _ _ _ h => h) (Or.inl ⟨by rfl, ?y49⟩) (by assumption) ?r49
            case y49 =>
              intro w hSw
              try dsimp only at hSw
              go_simp
              try with_reducible rfl
            try simp only [Act.put, List.setIfInBounds_toArray, List.set_cons_zero, List.set_cons_succ]
            refine wpAnyH_take (i := 51) (oi := ⟨some 100, _, _, _, _, _⟩) (v := ?v51) rfl (by kernel_rfl) (by kernel_rfl) (by kernel_rfl) (fun _ _ _ h => h) (Or.inl ⟨by rfl, ?y51⟩) (by assumption) ?r51
            case y51 =>
              intro w hSw
              try dsimp only at hSw
              go_simp
              try with_reducible rfl
            try simp only [Act.put, List.setIfInBounds_toArray, List.set_cons_zero, List.set_cons_succ]
            refine wpAnyH_take (i := 52) (oi := ⟨some 101, _, _, _, _, _⟩) (v := ?v52) rfl (by kernel_rfl) (by kernel_rfl) (by kernel_rfl) (fun _ _ _ h => h) (Or.inl ⟨by rfl, ?y52⟩) (by assumption) ?r52
            case y52 =>
              intro w hSw
              try dsimp only at hSw
              go_simp
              try with_reducible rfl
            try simp only [Act.put, List.setIfInBounds_toArray, List.set_cons_zero, List.set_cons_succ]
            refine wpAnyH_take (i := 53) (oi := ⟨some 102, _, _, _, _, _⟩) (v := ?v53) rfl (by kernel_rfl) (by kernel_rfl) (by kernel_rfl) (fun _ _ _ h => h) (Or.inl ⟨by rfl, ?y53⟩) (by assumption) ?r53
            case y53 =>
              intro w hSw
              try dsimp only at hSw
              go_simp
              try with_reducible rfl
            try simp only [Act.put, List.setIfInBounds_toArray, List.set_cons_zero, List.set_cons_succ]
            refine wpAnyH_take (i := 54) (oi := ⟨some 103, _, _, _, _, _⟩) (v := ?v54) rfl (by kernel_rfl) (by kernel_rfl) (by kernel_rfl) (fun _ _ _ h => h) (Or.inl ⟨by rfl, ?y54⟩) (by assumption) ?r54
            case y54 =>
              intro w hSw
              try dsimp only at hSw
              go_simp
              try with_reducible rfl
            try simp only [Act.put, List.setIfInBounds_toArray, List.set_cons_zero, List.set_cons_succ]
            refine wpAnyH_ready (rs := [50]) (by kernel_rfl) (by simp) ?_
            refine AllReadyH.cons (o := ⟨some 99, _, _, _, _, _⟩) rfl (fun K hK => ?_) AllReadyH.nil
            rw [if_pos (by rfl)]
            go_simp
            go_at_call 18
            (with_reducible refine (g11 _ _ (by assumption)).mono ?_)
            rintro e u50_ ⟨rfl, hk50_⟩
            refine hK.out _ _ (t0 _ hk50_) (fun hHeld => ?_)
            clear hK K hk42_ g11
            try simp only [Act.put, List.setIfInBounds_toArray, List.set_cons_zero, List.set_cons_succ]
            as_aux_lemma =>
             refine wpAnyH_ready (rs := [55]) (by kernel_rfl) (by simp) ?_
             refine AllReadyH.cons (o := ⟨some 104, _, _, _, _, _⟩) rfl (fun K hK => ?_) AllReadyH.nil
             rw [if_pos (by rfl)]
             go_simp
             go_at_call 19
             (with_reducible refine (g12 _ _ (by assumption)).mono ?_)
             rintro e u55_ ⟨rfl, hk55_⟩
             refine hK.out _ _ (t0 _ hk55_) (fun hHeld => ?_)
             clear hK K hk50_ g12
             try simp only [Act.put, List.setIfInBounds_toArray, List.set_cons_zero, List.set_cons_succ]
             as_aux_lemma =>
              refine wpAnyH_take (i := 56) (oi := ⟨some 105, _, _, _, _, _⟩) (v := ?v56) rfl (by kernel_rfl) (by kernel_rfl) (by kernel_rfl) (fun _ _ _ h => h) (Or.inl ⟨by rfl, ?y56⟩) (by assumption) ?r56
              case y56 =>
                intro w hSw
                try dsimp only at hSw
                go_simp
                try with_reducible rfl
              try simp only [Act.put, List.setIfInBounds_toArray, List.set_cons_zero, List.set_cons_succ]
              refine wpAnyH_take (i := 57) (oi := ⟨some 106, _, _, _, _, _⟩) (v := ?v57) rfl (by kernel_rfl) (by kernel_rfl) (by kernel_rfl) (fun _ _ _ h => h) (Or.inl ⟨by rfl, ?y57⟩) (by assumption) ?r57
              case y57 =>
                intro w hSw
                try dsimp only at hSw
                go_simp
                try with_reducible rfl
              try simp only [Act.put, List.setIfInBounds_toArray, List.set_cons_zero, List.set_cons_succ]
              refine wpAnyH_take (i := 58) (oi := ⟨some 107, _, _, _, _, _⟩) (v := ?v58) rfl (by kernel_rfl) (by kernel_rfl) (by kernel_rfl) (fun _ _ _ h => h) (Or.inl ⟨by rfl, ?y58⟩) (by assumption) ?r58
              case y58 =>
                intro w hSw
                try dsimp only at hSw
                go_simp
                try with_reducible rfl
              try simp only [Act.put, List.setIfInBounds_toArray, List.set_cons_zero, List.set_cons_succ]
              refine wpAnyH_take (i := 59) (oi := ⟨some 108, _, _, _, _, _⟩) (v := ?v59) rfl (by kernel_rfl) (by kernel_rfl) (by kernel_rfl) (fun _ _ _ h => h) (Or.inl ⟨by rfl, ?y59⟩) (by assumption) ?r59
              case y59 =>
                intro w hSw
                try dsimp only at hSw
                go_simp
                try with_reducible rfl
              try simp only [Act.put, List.setIfInBounds_toArray, List.set_cons_zero, List.set_cons_succ]
              refine wpAnyH_take (i := 61) (oi := ⟨some 110, _, _, _, _, _⟩) (v := ?v61) rfl (by kernel_rfl) (by kernel_rfl) (by kernel_rfl) (fun _ _ _ h => h) (Or.inl ⟨by rfl, ?y61⟩) (by assumption) ?r61
              case y61 =>
                intro w hSw
                try dsimp only at hSw
                go_simp
                try with_reducible rfl
              try simp only [Act.put, List.setIfInBounds_toArray, List.set_cons_zero, List.set_cons_succ]
              refine wpAnyH_ready (rs := [60]) (by kernel_rfl) (by simp) ?_
              refine AllReadyH.cons (o := ⟨some 109, _, _, _, _, _⟩) rfl (fun K hK => ?_) AllReadyH.nil
              rw [if_pos (by rfl)]
              go_simp
              go_at_call 21
              (with_reducible refine (g13 _ _ (by assumption)).mono ?_)
              rintro e u60_ ⟨A1, k1, rfl, gd1, hk60_⟩
              refine hK.out _ _ (t0 _ hk60_) (fun hHeld => ?_)
              clear hK K hk55_ g13
              try simp only [Act.put, List.setIfInBounds_toArray, List.set_cons_zero, List.set_cons_succ]
              as_aux_lemma =>
               refine wpAnyH_ready (rs := [62]) (by kernel_rfl) (by simp) ?_
               refine AllReadyH.cons (o := ⟨some 111, _, _, _, _, _⟩) rfl (fun K hK => ?_) AllReadyH.nil
               rw [if_pos (by rfl)]
               go_simp
               go_at_call 22
               (with_reducible refine (g14 _ _ _ _ (by assumption) (by assumption)).mono ?_)
               rintro e u62_ ⟨A2, k2, rfl, gd2, gd1', hk62_⟩
               clear gd1
               refine hK.out _ _ (t0 _ hk62_) (fun hHeld => ?_)
               clear hK K hk60_ g14
               try simp only [Act.put, List.setIfInBounds_toArray, List.set_cons_zero, List.set_cons_succ]
               as_aux_lemma =>
                refine wpAnyH_ready (rs := [63]) (by kernel_rfl) (by simp) ?_
                refine AllReadyH.cons (o := ⟨some 112, _, _, _, _, _⟩) rfl (fun K hK => ?_) AllReadyH.nil
                rw [if_pos (by rfl)]
                go_simp
                go_at_call 20
                (with_reducible refine (g15 _ _ _ _ _ _ (by assumption) (by assumption) (by assumption)).mono ?_)
                rintro e u63_ ⟨rfl, hk63_⟩
                clear gd2 gd1'
                refine hK.out _ _ (t0 _ hk63_) (fun hHeld => ?_)
                clear hK K hk62_ g15
                try simp only [Act.put, List.setIfInBounds_toArray, List.set_cons_zero, List.set_cons_succ]
                as_aux_lemma =>
                 refine wpAnyH_take (i := 64) (oi := ⟨some 113, _, _, _, _, _⟩) (v := ?v64) rfl (by kernel_rfl) (by kernel_rfl) (by kernel_rfl) (fun _ _ _ h => h) (Or.inl ⟨by rfl, ?y64⟩) (by assumption) ?r64
                 case y64 =>
                   intro w hSw
                   try dsimp only at hSw
                   go_simp
                   try with_reducible rfl
                 try simp only [Act.put, List.setIfInBounds_toArray, List.set_cons_zero, List.set_cons_succ]
                 refine wpAnyH_take (i := 65) (oi := ⟨some 114, _, _, _, _, _⟩) (v := ?v65) rfl (by kernel_rfl) (by kernel_rfl) (by kernel_rfl) (fun _ _ _ h => h) (Or.inl ⟨by rfl, ?y65⟩) (by assumption) ?r65
                 case y65 =>
                   intro w hSw
                   try dsimp only at hSw
                   go_simp
                   try with_reducible rfl
                 try simp only [Act.put, List.setIfInBounds_toArray, List.set_cons_zero, List.set_cons_succ]
                 refine wpAnyH_take (i := 66) (oi := ⟨some 115, _, _, _, _, _⟩) (v := ?v66) rfl (by kernel_rfl) (by kernel_rfl) (by kernel_rfl) (fun _ _ _ h => h) (Or.inl ⟨by rfl, ?y66⟩) (by assumption) ?r66
                 case y66 =>
                   intro w hSw
                   try dsimp only at hSw
                   go_simp
                   try with_reducible rfl
                 try simp only [Act.put, List.setIfInBounds_toArray, List.set_cons_zero, List.set_cons_succ]
                 refine wpAnyH_take (i := 67) (oi := ⟨some 116, _, _, _, _, _⟩) (v := ?v67) rfl (by kernel_rfl) (by kernel_rfl) (by kernel_rfl) (fun _ _ _ h => h) (Or.inl ⟨by rfl, ?y67⟩) (by assumption) ?r67
                 case y67 =>
                   intro w hSw
                   try dsimp only at hSw
                   go_simp
                   try with_reducible rfl
                 try simp only [Act.put, List.setIfInBounds_toArray, List.set_cons_zero, List.set_cons_succ]
                 refine wpAnyH_take (i := 68) (oi := ⟨some 117, _, _, _, _, _⟩) (v := ?v68) rfl (by kernel_rfl) (by kernel_rfl) (by kernel_rfl) (fun _ _ _ h => h) (Or.inl ⟨by rfl, ?y68⟩) (by assumption) ?r68
                 case y68 =>
                   intro w hSw
                   try dsimp only at hSw
                   go_simp
                   try with_reducible rfl
                 try simp only [Act.put, List.setIfInBounds_toArray, List.set_cons_zero, List.set_cons_succ]
                 refine wpAnyH_take (i := 69) (oi := ⟨some 118, _, _, _, _, _⟩) (v := ?v69) rfl (by kernel_rfl) (by kernel_rfl) (by kernel_rfl) (fun _ _ _ h => h) (Or.inl ⟨by rfl, ?y69⟩) (by assumption) ?r69
                 case y69 =>
                   intro w hSw
                   try dsimp only at hSw
                   go_simp
                   try with_reducible rfl
                 try simp only [Act.put, List.setIfInBounds_toArray, List.set_cons_zero, List.set_cons_succ]
                 refine wpAnyH_take (i := 70) (oi := ⟨some 119, _, _, _, _, _⟩) (v := ?v70) rfl (by kernel_rfl) (by kernel_rfl) (by kernel_rfl) (fun _ _ _ h => h) (Or.inl ⟨by rfl, ?y70⟩) (by assumption) ?r70
                 case y70 =>
                   intro w hSw
                   try dsimp only at hSw
                   go_simp
                   try with_reducible rfl
                 try simp only [Act.put, List.setIfInBounds_toArray, List.set_cons_zero, List.set_cons_succ]
                 refine wpAnyH_take (i := 71) (oi := ⟨some 120, _, _, _, _, _⟩) (v := ?v71) rfl (by kernel_rfl) (by kernel_rfl) (by kernel_rfl) (fun _ _ _ h => h) (Or.inl ⟨by rfl, ?y71⟩) (by assumption) ?r71
                 case y71 =>
                   intro w hSw
                   try dsimp only at hSw
                   go_simp
                   try with_reducible rfl
                 try simp only [Act.put, List.setIfInBounds_toArray, List.set_cons_zero, List.set_cons_succ]
                 refine wpAnyH_take (i := 72) (oi := ⟨some 121, _, _, _, _, _⟩) (v := ?v72) rfl (by kernel_rfl) (by kernel_rfl) (by kernel_rfl) (fun _ _ _ h => h) (Or.inl ⟨by rfl, ?y72⟩) (by assumption) ?r72
                 case y72 =>
                   intro w hSw
                   try dsimp only at hSw
                   go_simp
                   try with_reducible rfl
                 try simp only [Act.put, List.setIfInBounds_toArray, List.set_cons_zero, List.set_cons_succ]
                 refine wpAnyH_take (i := 73) (oi := ⟨some 122, _, _, _, _, _⟩) (v := ?v73) rfl (by kernel_rfl) (by kernel_rfl) (by kernel_rfl) (fun _ _ _ h => h) (Or.inl ⟨by rfl, ?y73⟩) (by assumption) ?r73
                 case y73 =>
                   intro w hSw
                   try dsimp only at hSw
                   go_simp
                   try with_reducible rfl
                 try simp only [Act.put, List.setIfInBounds_toArray, List.set_cons_zero, List.set_cons_succ]
                 refine wpAnyH_take (i := 74) (oi := ⟨some 123, _, _, _, _, _⟩) (v := ?v74) rfl (by kernel_rfl) (by kernel_rfl) (by kernel_rfl) (fun _ _ _ h => h) (Or.inl ⟨by rfl, ?y74⟩) (by assumption) ?r74
                 case y74 =>
                   intro w hSw
                   try dsimp only at hSw
                   go_simp
                   try with_reducible rfl
                 try simp only [Act.put, List.setIfInBounds_toArray, List.set_cons_zero, List.set_cons_succ]
                 refine wpAnyH_take (i := 75) (oi := ⟨some 124, _, _, _, _, _⟩) (v := ?v75) rfl (by kernel_rfl) (by kernel_rfl) (by kernel_rfl) (fun _ _ _ h => h) (Or.inl ⟨by rfl, ?y75⟩) (by assumption) ?r75
                 case y75 =>
                   intro w hSw
                   try dsimp only at hSw
                   go_simp
                   try with_reducible rfl
                 try simp only [Act.put, List.setIfInBounds_toArray, List.set_cons_zero, List.set_cons_succ]
                 refine wpAnyH_take (i := 76) (oi := ⟨some 125, _, _, _, _, _⟩) (v := ?v76) rfl (by kernel_rfl) (by kernel_rfl) (by kernel_rfl) (fun _ _ _ h => h) (Or.inl ⟨by rfl, ?y76⟩) (by assumption) ?r76
                 case y76 =>
                   intro w hSw
                   try dsimp only at hSw
                   go_simp
                   try with_reducible rfl
                 try simp only [Act.put, List.setIfInBounds_toArray, List.set_cons_zero, List.set_cons_succ]
                 refine wpAnyH_take (i := 77) (oi := ⟨some 126, _, _, _, _, _⟩) (v := ?v77) rfl (by kernel_rfl) (by kernel_rfl) (by kernel_rfl) (fun _ _ _ h => h) (Or.inl ⟨by rfl, ?y77⟩) (by assumption) ?r77
                 case y77 =>
                   intro w hSw
                   try dsimp only at hSw
                   go_simp
                   try with_reducible rfl
                 try simp only [Act.put, List.setIfInBounds_toArray, List.set_cons_zero, List.set_cons_succ]
                 refine wpAnyH_take (i := 78) (oi := ⟨some 127, _, _, _, _, _⟩) (v := ?v78) rfl (by kernel_rfl) (by kernel_rfl) (by kernel_rfl) (fun _ _ _ h => h) (Or.inl ⟨by rfl, ?y78⟩) (by assumption) ?r78
                 case y78 =>
                   intro w hSw
                   try dsimp only at hSw
                   go_simp
                   try with_reducible rfl
                 try simp only [Act.put, List.setIfInBounds_toArray, List.set_cons_zero, List.set_cons_succ]
                 refine wpAnyH_take (i := 79) (oi := ⟨some 128, _, _, _, _, _⟩) (v := ?v79) rfl (by kernel_rfl) (by kernel_rfl) (by kernel_rfl) (fun _ _ _ h => h) (Or.inl ⟨by rfl, ?y79⟩) (by assumption) ?r79
                 case y79 =>
                   intro w hSw
                   try dsimp only at hSw
                   go_simp
                   try with_reducible rfl
                 try simp only [Act.put, List.setIfInBounds_toArray, List.set_cons_zero, List.set_cons_succ]
                 refine wpAnyH_take (i := 80) (oi := ⟨some 129, _, _, _, _, _⟩) (v := ?v80) rfl (by kernel_rfl) (by kernel_rfl) (by kernel_rfl) (fun _ _ _ h => h) (Or.inl ⟨by rfl, ?y80⟩) (by assumption) ?r80
                 case y80 =>
                   intro w hSw
                   try dsimp only at hSw
                   go_simp
                   try with_reducible rfl
                 try simp only [Act.put, List.setIfInBounds_toArray, List.set_cons_zero, List.set_cons_succ]
                 refine wpAnyH_take (i := 81) (oi := ⟨some 130, _, _, _, _, _⟩) (v := ?v81) rfl (by kernel_rfl) (by kernel_rfl) (by kernel_rfl) (fun _ _ _ h => h) (Or.inl ⟨by rfl, ?y81⟩) (by assumption) ?r81
                 case y81 =>
                   intro w hSw
                   try dsimp only at hSw
                   go_simp
                   try with_reducible rfl
                 try simp only [Act.put, List.setIfInBounds_toArray, List.set_cons_zero, List.set_cons_succ]
                 refine wpAnyH_take (i := 82) (oi := ⟨some 131, _, _, _, _, _⟩) (v := ?v82) rfl (by kernel_rfl) (by kernel_rfl) (by kernel_rfl) (fun _ _ _ h => h) (Or.inl ⟨by rfl, ?y82⟩) (by assumption) ?r82
                 case y82 =>
                   intro w hSw
                   try dsimp only at hSw
                   go_simp
                   try with_reducible rfl
                 try simp only [Act.put, List.setIfInBounds_toArray, List.set_cons_zero, List.set_cons_succ]
                 refine wpAnyH_take (i := 83) (oi := ⟨some 132, _, _, _, _, _⟩) (v := ?v83) rfl (by kernel_rfl) (by kernel_rfl) (by kernel_rfl) (fun _ _ _ h => h) (Or.inl ⟨by rfl, ?y83⟩) (by assumption) ?r83
                 case y83 =>
                   intro w hSw
                   try dsimp only at hSw
                   go_simp
                   try with_reducible rfl
                 try simp only [Act.put, List.setIfInBounds_toArray, List.set_cons_zero, List.set_cons_succ]
                 refine wpAnyH_take (i := 84) (oi := ⟨some 133, _, _, _, _, _⟩) (v := ?v84) rfl (by kernel_rfl) (by kernel_rfl) (by kernel_rfl) (fun _ _ _ h => h) (Or.inl ⟨by rfl, ?y84⟩) (by assumption) ?r84
                 case y84 =>
                   intro w hSw
                   try dsimp only at hSw
                   go_simp
                   try with_reducible rfl
                 try simp only [Act.put, List.setIfInBounds_toArray, List.set_cons_zero, List.set_cons_succ]
                 refine wpAnyH_take (i := 85) (oi := ⟨some 134, _, _, _, _, _⟩) (v := ?v85) rfl (by kernel_rfl) (by kernel_rfl) (by kernel_rfl) (fun _ _ _ h => h) (Or.inl ⟨by rfl, ?y85⟩) (by assumption) ?r85
                 case y85 =>
                   intro w hSw
                   try dsimp only at hSw
                   go_simp
                   try with_reducible rfl
                 try simp only [Act.put, List.setIfInBounds_toArray, List.set_cons_zero, List.set_cons_succ]
                 refine wpAnyH_take (i := 86) (oi := ⟨some 135, _, _, _, _, _⟩) (v := ?v86) rfl (by kernel_rfl) (by kernel_rfl) (by kernel_rfl) (fun _ _ _ h => h) (Or.inl ⟨by rfl, ?y86⟩) (by assumption) ?r86
                 case y86 =>
                   intro w hSw
                   try dsimp only at hSw
                   go_simp
                   try with_reducible rfl
                 try simp only [Act.put, List.setIfInBounds_toArray, List.set_cons_zero, List.set_cons_succ]
                 refine wpAnyH_take (i := 88) (oi := ⟨some 137, _, _, _, _, _⟩) (v := ?v88) rfl (by kernel_rfl) (by kernel_rfl) (by kernel_rfl) (fun _ _ _ h => h) (Or.inl ⟨by rfl, ?y88⟩) (by assumption) ?r88
                 case y88 =>
                   intro w hSw
                   try dsimp only at hSw
                   go_simp
                   try with_reducible rfl
                 try simp only [Act.put, List.setIfInBounds_toArray, List.set_cons_zero, List.set_cons_succ]
                 refine wpAnyH_ready (rs := [87]) (by kernel_rfl) (by simp) ?_
                 refine AllReadyH.cons (o := ⟨some 136, _, _, _, _, _⟩) rfl (fun K hK => ?_) AllReadyH.nil
                 rw [if_pos (by rfl)]
                 go_simp
                 go_at_call 23
                 (with_reducible refine (g16 _ (by assumption)).mono ?_)
                 rintro e u87_ ⟨rfl, hk87_⟩
                 refine hK.out _ _ (t0 _ hk87_) (fun hHeld => ?_)
                 clear hK K hk63_ g16
                 try simp only [Act.put, List.setIfInBounds_toArray, List.set_cons_zero, List.set_cons_succ]
                 as_aux_lemma =>
                  refine wpAnyH_ready (rs := [89]) (by kernel_rfl) (by simp) ?_
                  refine AllReadyH.cons (o := ⟨some 138, _, _, _, _, _⟩) rfl (fun K hK => ?_) AllReadyH.nil
                  rw [if_pos (by rfl)]
                  go_simp
                  go_at_call 24
                  (with_reducible refine (g17 _ _ (by assumption)).mono ?_)
                  rintro e u89_ ⟨rfl, hk89_⟩
                  refine hK.out _ _ (t0 _ hk89_) (fun hHeld => ?_)
                  clear hK K hk87_ g17
                  try simp only [Act.put, List.setIfInBounds_toArray, List.set_cons_zero, List.set_cons_succ]
                  as_aux_lemma =>
                   refine wpAnyH_take (i := 90) (oi := ⟨some 139, _, _, _, _, _⟩) (v := ?v90) rfl (by kernel_rfl) (by kernel_rfl) (by kernel_rfl) (fun _ _ _ h => h) (Or.inl ⟨by rfl, ?y90⟩) (by assumption) ?r90
                   case y90 =>
                     intro w hSw
                     try dsimp only at hSw
                     go_simp
                     try with_reducible rfl
                   try simp only [Act.put, List.setIfInBounds_toArray, List.set_cons_zero, List.set_cons_succ]
                   refine wpAnyH_take (i := 91) (oi := ⟨some 140, _, _, _, _, _⟩) (v := ?v91) rfl (by kernel_rfl) (by kernel_rfl) (by kernel_rfl) (fun _ _ _ h => h) (Or.inl ⟨by rfl, ?y91⟩) (by assumption) ?r91
                   case y91 =>
                     intro w hSw
                     try dsimp only at hSw
                     go_simp
                     try with_reducible rfl
                   try simp only [Act.put, List.setIfInBounds_toArray, List.set_cons_zero, List.set_cons_succ]
                   refine wpAnyH_take (i := 92) (oi := ⟨some 10, _, _, _, _, _⟩) (v := ?v92) rfl (by kernel_rfl) (by kernel_rfl) (by kernel_rfl) (fun _ _ _ h => h) (Or.inl ⟨by rfl, ?y92⟩) (by assumption) ?r92
                   case y92 =>
                     intro w hSw
                     try dsimp only at hSw
                     go_simp
                     try with_reducible rfl
                   try simp only [Act.put, List.setIfInBounds_toArray, List.set_cons_zero, List.set_cons_succ]
                   refine wpAnyH_done (by kernel_rfl) (NoPanic.normal ?_) _
                   go_wp2
                   go_ret
                   exact ⟨rfl, below_more kb (Later.b (by assumption)) (Nat.le_refl _)⟩
theorem labelAnswers_walk (a b : LabD) (o : Nat) (A : Option Addr) (zs : List Int) (l c : Nat) (ts : ByteArray) (ha : a.ok) (hb : b.ok) (ho : okW64 o) (hl : zs.length = l) (hz : isBytes zs) (w : World) (hg : Good A c zs w) (hG : Gnd7 w) :
    Calls Tryz.prog 3 #[labV a, labV b, .int .u64 o, .slice A l c, .string ts] w fun e w' => e = .returned (.bool true) ∧ Below w.heap.size w w' := by
  by_cases h1 : 100 < l
  · exact labelAnswers_great a b o A l c ts (.inl h1) w hG
  by_cases h2 : 800 < ts.size
  · exact labelAnswers_great a b o A l c ts (.inr ⟨by omega, h2⟩) w hG
  obtain ⟨p, o1, hp⟩ : ∃ p o, fromD zs = (p, o) := ⟨_, _, rfl⟩
  obtain ⟨u, o2, hu⟩ : ∃ u o, readD ts.data.toList = (u, o) := ⟨_, _, rfl⟩
  have hlen : ts.data.toList.length ≤ 1000 := by have : ts.data.toList.length = ts.size := rfl; omega
  exact labelAnswers_small a b p u o A l c zs ts o1 o2 ha hb ho (by omega) (by omega) (labFrom_any A c l zs p o1 hl hz hp) (refLabFrom_any A c l zs p o1 hl hz hp)
    (labRead_any ts.data.toList u o2 hlen hu) (refLabRead ts.data.toList u o2 hlen hu) w hg hG
end Go.Proofs.YtcodphddkkjocaaGreatDoor
