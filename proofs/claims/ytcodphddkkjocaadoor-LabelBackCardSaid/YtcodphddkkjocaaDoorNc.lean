/- LabelBack's walk. -/
import Derived.Test.YtcodphddkkjocaaDoorUh
import Derived.Deep.RegionHeld3
namespace Go.Proofs.YtcodphddkkjocaaDoor
open Go.RowKit
set_option linter.unusedVariables false

set_option maxRecDepth 100000 in
set_option maxHeartbeats 4000000 in
theorem labelBack_walk (a b : LabD) (ha : a.ok) (hb : b.ok) (w : World) (hG : Gnd7 w) :
    Calls Tryd.prog 7 #[labV a, labV b] w fun e w' => e = .returned (.bool true) ∧ Below w.heap.size w w' := by
  obtain ⟨x1, y1⟩ := a
  obtain ⟨x2, y2⟩ := b
  obtain ⟨e, he⟩ : ∃ e, (((x1 : Int) == (x2 : Int)) && ((y1 : Int) == (y2 : Int))) = e := ⟨_, rfl⟩
  obtain ⟨ta, hta⟩ : ∃ t, strB (labT x1 y1) = t := ⟨_, rfl⟩
  obtain ⟨tb, htb⟩ : ∃ t, strB (labT x2 y2) = t := ⟨_, rfl⟩
  have hS : (ta.toList == tb.toList) = e := by
    rw [← he, ← hta, ← htb, Lib.toList_data, Lib.toList_data, strB_list, strB_list, Bool.eq_iff_iff, beq_iff_eq, Bool.and_eq_true, beq_iff_eq, beq_iff_eq, Int.natCast_inj, Int.natCast_inj]
    exact ⟨fun h => lab_inj ha.1 ha.2 hb.1 hb.2 h, fun h => by rw [h.1, h.2]⟩
  have c0 : ∀ W, Calls Tryd.prog 17 #[.agg #[.int .u64 x1, .int .u64 y1]] W fun e w' => ∃ A c, e = .returned (.slice A 16 c) ∧ Good A c (labB ⟨x1, y1⟩) w' ∧ Below W.heap.size W w' := bytes_own x1 y1 ha.1 ha.2
  have c1 := from_own x1 y1 ha.1 ha.2
  have c2 : ∀ W, Gnd7 W → Calls Tryd.prog 19 #[.agg #[.int .u64 x1, .int .u64 y1]] W fun e w' => e = .returned (.string ta) ∧ Below W.heap.size W w' := fun W h => by rw [← hta]; exact labShow_any x1 y1 ha.1 ha.2 W h
  have c3 : ∀ W, Gnd7 W → Calls Tryd.prog 18 #[.string ta] W fun e w' => e = .returned (.tuple #[.agg #[.int .u64 x1, .int .u64 y1], .bool true]) ∧ Below W.heap.size W w' := fun W h => by
    rw [← hta]; exact labRead_any (labT x1 y1) ⟨x1, y1⟩ true (Nat.le_trans (lab_len ha.1 ha.2) (by decide)) (readD_text x1 y1 ha.1 ha.2) W h
  have c4 : ∀ W, Gnd7 W → Calls Tryd.prog 19 #[.agg #[.int .u64 x2, .int .u64 y2]] W fun e w' => e = .returned (.string tb) ∧ Below W.heap.size W w' := fun W h => by rw [← htb]; exact labShow_any x2 y2 hb.1 hb.2 W h
  have e1 : ∀ W, (binOp .eql 24 (.agg #[.int .u64 x1, .int .u64 y1]) (.agg #[.int .u64 x1, .int .u64 y1])).run Tryd.prog W = .ok (.bool true) W := fun W => by rw [run_eqL]; simp
  have e2 : ∀ W, (binOp .eql 24 (.agg #[.int .u64 x1, .int .u64 y1]) (.agg #[.int .u64 x2, .int .u64 y2])).run Tryd.prog W = .ok (.bool e) W := fun W => by rw [run_eqL, he]
  have kB := two_below w (.cells #[.int .u64 x1, .int .u64 y1] 24) (.cells #[.int .u64 x2, .int .u64 y2] 24)
  have cA := alive7_any _ (hG.below kB)
  have tN := two_new w ⟨x1, y1⟩ ⟨x2, y2⟩ 24
  unfold labV
  simp only at *
  clear he hta htb ha hb
  go_enter Tryd.func7, Tryd.ntmps7
  go_wp2_with fail
  refine cA.mono ?_
  rintro e w1 ⟨rfl, hbl⟩
  have q1 := tN.later ⟨hbl⟩
  have k1 := below_more kB hbl (Nat.le_refl _)
  have p0 := q1.a.c0
  have p1 := q1.a.c1
  clear tN kB hbl cA
  go_wp2_with fail
  refine (c0 w1).mono ?_
  rintro e w2 ⟨A, c, rfl, g, hk⟩
  have q2 := q1.later ⟨hk⟩
  have k2 := below_more k1 hk (Nat.le_refl _)
  clear q1 k1 hk p0 p1
  go_wp2_with fail
  refine (c1 _ _ _ g).mono ?_
  rintro e w3 ⟨rfl, hk⟩
  have z3 := later_alloc w3 (.cells #[.int .u64 x1, .int .u64 y1] 24)
  have xN := LabBox.new w3 x1 y1 24
  have q3 := (q2.later ⟨hk⟩).later z3
  have k3 := below_more (below_more k2 hk (Nat.le_refl _)) z3.b (Nat.le_refl _)
  have hG3 := hG.below k3
  have p0 := q3.a.c0
  have p1 := q3.a.c1
  clear q2 k2 hk g c1 z3
  go_wp2_with fail
  refine (c2 _ hG3).mono ?_
  rintro e w4 ⟨rfl, hk⟩
  have q4 := q3.later ⟨hk⟩
  have x4 := xN.later ⟨hk⟩
  have k4 := below_more k3 hk (Nat.le_refl _)
  have hG4 := hG.below k4
  generalize w3.heap.size = xb at *
  clear q3 xN k3 hG3 hk p0 p1
  go_wp2_with fail
  refine (c3 _ hG4).mono ?_
  rintro e w5 ⟨rfl, hk⟩
  have z5 := later_alloc w5 (.cells #[.int .u64 x1, .int .u64 y1] 24)
  have yN := LabBox.new w5 x1 y1 24
  have q5 := (q4.later ⟨hk⟩).later z5
  have x5 := (x4.later ⟨hk⟩).later z5
  have kW := below_more (below_more k4 hk (Nat.le_refl _)) z5.b (Nat.le_refl _)
  have hG5 := hG.below kW
  clear q4 x4 k4 hk z5 hG4 c3
  go_wp2_with fail
  generalize w5.heap.size = yb at *
  generalize w5.alloc (.cells #[.int .u64 x1, .int .u64 y1] 24) = W0 at *
  have t0 : ∀ W, Later W0 W → (W.cell? ⟨w.heap.size, 0, none⟩ = some (.int .u64 x1) ∧ W.cell? ⟨w.heap.size, 1, none⟩ = some (.int .u64 y1) ∧ W.cell? ⟨w.heap.size + 1, 0, none⟩ = some (.int .u64 x2) ∧ W.cell? ⟨w.heap.size + 1, 1, none⟩ = some (.int .u64 y2) ∧ W.cell? ⟨xb, 0, none⟩ = some (.int .u64 x1) ∧ W.cell? ⟨xb, 1, none⟩ = some (.int .u64 y1) ∧ W.cell? ⟨yb, 0, none⟩ = some (.int .u64 x1) ∧ W.cell? ⟨yb, 1, none⟩ = some (.int .u64 y1)) := fun W hW => ⟨(q5.later hW).a.c0, (q5.later hW).a.c1, (q5.later hW).b.c0, (q5.later hW).b.c1, (x5.later hW).c0, (x5.later hW).c1, (yN.later hW).c0, (yN.later hW).c1⟩
  have c5 : ∀ W, Later W0 W → Calls Tryd.prog 17 #[.agg #[.int .u64 x1, .int .u64 y1]] W fun e w' => ∃ A c, e = .returned (.slice A 16 c) ∧ Later W0 w' := fun W h => (c0 W).mono fun e w' ⟨A, c, he, _, hb⟩ => ⟨A, c, he, h.more hb⟩
  have c6 := lift_laterG W0 hG5 c2
  have c7 := lift_laterG W0 hG5 c4
  clear q5 x5 yN hG5 hG c0 c2 c4
  have l0 := (Later.refl W0).drew
  go_region_held3 (fun w' => (w'.cell? ⟨w.heap.size, 0, none⟩ = some (.int .u64 x1) ∧ w'.cell? ⟨w.heap.size, 1, none⟩ = some (.int .u64 y1) ∧ w'.cell? ⟨w.heap.size + 1, 0, none⟩ = some (.int .u64 x2) ∧ w'.cell? ⟨w.heap.size + 1, 1, none⟩ = some (.int .u64 y2) ∧ w'.cell? ⟨xb, 0, none⟩ = some (.int .u64 x1) ∧ w'.cell? ⟨xb, 1, none⟩ = some (.int .u64 y1) ∧ w'.cell? ⟨yb, 0, none⟩ = some (.int .u64 x1) ∧ w'.cell? ⟨yb, 1, none⟩ = some (.int .u64 y1))) (first | assumption | exact t0 _ (by assumption)) (first | (rw [if_pos (by rfl)]; go_simp; (first | (go_at_call 17; ((with_reducible refine (c5 _ (by assumption)).mono ?_); rintro e w' ⟨A', c', rfl, hk⟩)) | (go_at_call 19; first | ((with_reducible refine (c6 _ (by assumption)).mono ?_); rintro e w' ⟨rfl, hk⟩) | ((with_reducible refine (c7 _ (by assumption)).mono ?_); rintro e w' ⟨rfl, hk⟩)))) | (first | (go_at_call 17; ((with_reducible refine (c5 _ (by assumption)).mono ?_); rintro e w' ⟨A', c', rfl, hk⟩)) | (go_at_call 19; first | ((with_reducible refine (c6 _ (by assumption)).mono ?_); rintro e w' ⟨rfl, hk⟩) | ((with_reducible refine (c7 _ (by assumption)).mono ?_); rintro e w' ⟨rfl, hk⟩))))
  go_wp2
  go_ret
  exact ⟨rfl, below_more kW (Later.b (by assumption)) (Nat.le_refl _)⟩
end Go.Proofs.YtcodphddkkjocaaDoor
