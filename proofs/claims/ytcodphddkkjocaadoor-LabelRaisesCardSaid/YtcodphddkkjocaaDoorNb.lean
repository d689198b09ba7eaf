/- LabelRaises's walk. -/
import Derived.Test.YtcodphddkkjocaaDoorUh
import Derived.Deep.RegionHeld3
namespace Go.Proofs.YtcodphddkkjocaaDoor
open Go.RowKit
set_option linter.unusedVariables false

set_option maxRecDepth 100000 in
set_option maxHeartbeats 4000000 in
theorem labelRaises_walk (a : LabD) (u v : Nat) (ha : a.ok) (hu : okW64 u) (hv : okW64 v) (w : World) (hG : Gnd7 w) :
    Calls Tryd.prog 6 #[labV a, .int .u64 u, .int .u64 v] w fun e w' => e = .returned (.bool true) ∧ Below w.heap.size w w' := by
  obtain ⟨r, hr⟩ : ∃ r, raiseD a u v = r := ⟨_, rfl⟩
  have hrk : r.ok := by rw [← hr]; exact raise_ok ha hu
  obtain ⟨n, hn⟩ : ∃ n, needN r a = n := ⟨_, rfl⟩
  have hnl : okW64 n := by rw [← hn]; exact need_lt hrk ha
  obtain ⟨o, ho⟩ : ∃ o, u ||| v = o := ⟨_, rfl⟩
  have hol : okW64 o := by rw [← ho]; exact or_lt hu hv
  have hOr : bits .or .u64 (u : Int) (v : Int) = (o : Int) := by rw [bits_or_u64_nat u v hu hv, ho]
  have hAn : bits .andNot .u64 (n : Int) (o : Int) = 0 := by
    rw [u64_andNot_nat n o hnl hol]
    have : n &&& (18446744073709551615 - o) = 0 := by rw [← hn, ← hr, ← ho]; exact raise_back ha hu hv
    rw [this]; rfl
  have c0 := raise_late a r u v ha hu hv hr
  have c1 := need_late r a n hrk ha hn
  have c2 := flows_late a r true ha hrk (by rw [← hr]; exact raise_up ha hu hv)
  have c3 := with_late r a o true hrk ha hol (by rw [← hr, ← ho]; exact raise_with ha hu hv)
  have c4 := raise_late r r u v hrk hu hv (by rw [← hr]; exact raise_twice ha hu hv)
  have c5 : ∀ (W0 W : World), Later W0 W → Calls Tryd.prog 15 #[.agg #[.int .u64 a.s, .int .u64 a.t], .int .u64 0, .int .u64 0] W fun e w' => e = .returned (.agg #[.int .u64 a.s, .int .u64 a.t]) ∧ Later W0 w' := raise_late a a 0 0 ha (by decide) (by decide) (raise_none ha)
  have e1 : ∀ W, (binOp .eql 24 (.agg #[.int .u64 r.s, .int .u64 r.t]) (.agg #[.int .u64 r.s, .int .u64 r.t])).run Tryd.prog W = .ok (.bool true) W := fun W => by rw [run_eqL]; simp
  have e2 : ∀ W, (binOp .eql 24 (.agg #[.int .u64 a.s, .int .u64 a.t]) (.agg #[.int .u64 a.s, .int .u64 a.t])).run Tryd.prog W = .ok (.bool true) W := fun W => by rw [run_eqL]; simp
  have kB := one_below w (.cells #[.int .u64 a.s, .int .u64 a.t] 24)
  have cA := alive7_any _ (hG.below kB)
  have tN := LabBox.new w a.s a.t 24
  clear hr hrk hn hnl ho hol ha hu hv hG
  obtain ⟨x1, y1⟩ := a
  obtain ⟨x2, y2⟩ := r
  unfold labV
  simp only at *
  go_enter Tryd.func6, Tryd.ntmps6
  go_wp2_with fail
  refine cA.mono ?_
  rintro e w1 ⟨rfl, hbl⟩
  have q1 := tN.later ⟨hbl⟩
  have k1 := below_more kB hbl (Nat.le_refl _)
  have p0 := q1.c0
  have p1 := q1.c1
  clear tN kB hbl cA
  go_wp2_with fail
  refine (c0 _ _ (Later.refl w1)).mono ?_
  rintro e w2 ⟨rfl, hk⟩
  have q2 := q1.later hk
  have k2 := below_more k1 hk.b (Nat.le_refl _)
  have r3 := LabBox.new w2 x2 y2 24
  have q3 := q2.later (later_alloc w2 (.cells #[.int .u64 x2, .int .u64 y2] 24))
  have k3 := below_more k2 (later_alloc w2 (.cells #[.int .u64 x2, .int .u64 y2] 24)).b (Nat.le_refl _)
  have p0 := q3.c0
  have p1 := q3.c1
  have p2 := r3.c0
  have p3 := r3.c1
  clear q1 q2 k1 k2 hk c0
  go_wp2_with fail
  refine (c1 _ _ (Later.refl _)).mono ?_
  rintro e W0 ⟨rfl, hk⟩
  have q4 := q3.later hk
  have r4 := r3.later hk
  have kW := below_more k3 hk.b (Nat.le_refl _)
  generalize w2.heap.size = rb at *
  have t0 : ∀ W, Later W0 W → (W.cell? ⟨w.heap.size, 0, none⟩ = some (.int .u64 x1) ∧ W.cell? ⟨w.heap.size, 1, none⟩ = some (.int .u64 y1) ∧ W.cell? ⟨rb, 0, none⟩ = some (.int .u64 x2) ∧ W.cell? ⟨rb, 1, none⟩ = some (.int .u64 y2)) := fun W hW => ⟨(q4.later hW).c0, (q4.later hW).c1, (r4.later hW).c0, (r4.later hW).c1⟩
  clear q3 q4 r3 r4 k3 hk c1 p0 p1 p2 p3
  have l0 := (Later.refl W0).drew
  go_wp2_with fail
  go_region_held3 (fun w' => (w'.cell? ⟨w.heap.size, 0, none⟩ = some (.int .u64 x1) ∧ w'.cell? ⟨w.heap.size, 1, none⟩ = some (.int .u64 y1) ∧ w'.cell? ⟨rb, 0, none⟩ = some (.int .u64 x2) ∧ w'.cell? ⟨rb, 1, none⟩ = some (.int .u64 y2))) (first | assumption | exact t0 _ (by assumption)) (first | (rw [if_pos (by rfl)]; go_simp; (first | (go_at_call 10; first | ((with_reducible refine (c2 _ _ (by assumption)).mono ?_); rintro e w' ⟨rfl, hk⟩)) | (go_at_call 14; first | ((with_reducible refine (c3 _ _ (by assumption)).mono ?_); rintro e w' ⟨rfl, hk⟩)) | (go_at_call 15; first | ((with_reducible refine (c4 _ _ (by assumption)).mono ?_); rintro e w' ⟨rfl, hk⟩) | ((with_reducible refine (c5 _ _ (by assumption)).mono ?_); rintro e w' ⟨rfl, hk⟩)))) | (first | (go_at_call 10; first | ((with_reducible refine (c2 _ _ (by assumption)).mono ?_); rintro e w' ⟨rfl, hk⟩)) | (go_at_call 14; first | ((with_reducible refine (c3 _ _ (by assumption)).mono ?_); rintro e w' ⟨rfl, hk⟩)) | (go_at_call 15; first | ((with_reducible refine (c4 _ _ (by assumption)).mono ?_); rintro e w' ⟨rfl, hk⟩) | ((with_reducible refine (c5 _ _ (by assumption)).mono ?_); rintro e w' ⟨rfl, hk⟩))))
  go_wp2
  go_ret
  exact ⟨rfl, below_more kW (Later.b (by assumption)) (Nat.le_refl _)⟩
end Go.Proofs.YtcodphddkkjocaaDoor
