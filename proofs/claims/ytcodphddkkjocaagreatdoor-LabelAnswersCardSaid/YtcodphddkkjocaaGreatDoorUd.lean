/- label.Show and label.Read: what they answer, for every label and for every text of at most 1000 bytes. -/
import Derived.Test.YtcodphddkkjocaaGreatDoorPk
import Derived.Test.YtcodphddkkjocaaGreatDoorUb
import Derived.Test.YtcodphddkkjocaaGreatDoorUc
namespace Go.Proofs.YtcodphddkkjocaaGreatDoor
open Go.RowKit
set_option linter.unusedVariables false

/-- What the calls of layers 6 and 7 lean on: the table and the errors of the library, and the bound of its search. -/
structure Gnd7 (w : World) : Prop where
  g : Gnd w
  m : ∃ m, w.cell? ⟨0, 0, none⟩ = some (.int .i64 m)
theorem Gnd7.below {w w' : World} (h : Gnd7 w) (hb : Below w.heap.size w w') : Gnd7 w' := by
  obtain ⟨h1, m, h2⟩ := h
  have l2 := World.block_lt_of_cell? w _ h2
  exact ⟨h1.below hb, m, (hb.cell (p := ⟨0, 0, none⟩) l2).trans h2⟩
theorem show_state (w : World) (x y : Nat) (hx : x < 18446744073709551616) (hy : y < 18446744073709551616) (hG : Gnd7 w) (gt : TypeId) (tx ty : ByteArray) (ex : strB (textB x) = tx) (ey : strB (textB y) = ty) :
    ∃ T : World → Prop, (∀ W, T W → (W.cell? ⟨w.heap.size, 0, none⟩ = some (.int .u64 x) ∧ W.cell? ⟨w.heap.size, 1, none⟩ = some (.int .u64 y))) ∧ T (w.alloc (.cells #[.int .u64 x, .int .u64 y] gt)) ∧ (∀ W, T W → T W.drew) ∧ (∀ W, T W → Below w.heap.size w W) ∧
      (∀ W, T W → Calls Tryz.prog 41 #[.int .u64 x] W fun e w' => e = .returned (.string tx) ∧ T w') ∧
      (∀ W, T W → Calls Tryz.prog 41 #[.int .u64 y] W fun e w' => e = .returned (.string ty) ∧ T w') := by
  refine ⟨LabSt w x y, fun W h => ⟨h.c0, h.c1⟩, LabSt.new w x y gt, fun W h => h.below (below_drewN (Below.refl _ _) 1), fun W h => h.b, fun W h => ?_, fun W h => ?_⟩
  · refine (show_any x hx W (hG.below h.b).g).mono ?_
    rintro e w' ⟨rfl, hb⟩
    exact ⟨by rw [ex], h.below hb⟩
  · refine (show_any y hy W (hG.below h.b).g).mono ?_
    rintro e w' ⟨rfl, hb⟩
    exact ⟨by rw [ey], h.below hb⟩
set_option maxRecDepth 100000 in
set_option maxHeartbeats 1000000 in
theorem labShow_any (x y : Nat) (hx : x < 18446744073709551616) (hy : y < 18446744073709551616) (w : World) (hG : Gnd7 w) :
    Calls Tryz.prog 23 #[labV ⟨x, y⟩] w fun e w' => e = .returned (.string (strB (labT x y))) ∧ Below w.heap.size w w' := by
  obtain ⟨tx, ex⟩ : ∃ tx, strB (textB x) = tx := ⟨_, rfl⟩
  obtain ⟨ty, ey⟩ : ∃ ty, strB (textB y) = ty := ⟨_, rfl⟩
  obtain ⟨T, t0, t1, td, tb, F1, F2⟩ := show_state w x y hx hy hG 24 tx ty ex ey
  have z1 : tx.size ≤ 400 := by rw [← ex]; exact text_len hx
  have z2 : ty.size ≤ 400 := by rw [← ey]; exact text_len hy
  have e0 : ((⟨#[115, 58]⟩ : ByteArray) ++ tx ++ ⟨#[32, 116, 58]⟩ ++ ty) = strB (labT x y) := by
    rw [← ex, ← ey]
    unfold labT
    rw [← strB_append, ← strB_append, ← strB_append]; rfl
  have z4 : (strB (labT x y)).size ≤ 805 := lab_len hx hy
  generalize strB (labT x y) = t4 at *
  obtain ⟨t2, e2⟩ : ∃ t2, (⟨#[115, 58]⟩ : ByteArray) ++ tx = t2 := ⟨_, rfl⟩
  rw [e2] at e0
  obtain ⟨t3, e3⟩ : ∃ t3, t2 ++ (⟨#[32, 116, 58]⟩ : ByteArray) = t3 := ⟨_, rfl⟩
  rw [e3] at e0
  have z3 : t2.size ≤ 402 := by rw [← e2, ByteArray.size_append]; exact Nat.add_le_add_left z1 2
  have z5 : t3.size ≤ 405 := by rw [← e3, ByteArray.size_append]; exact Nat.add_le_add_right z3 3
  have y1 : ¬ (9223372036854775807 < 2 + tx.size) := by omega
  have y2 : ¬ (9223372036854775807 < t2.size + 3) := by omega
  have y3 : ¬ (9223372036854775807 < t3.size + ty.size) := by omega
  clear ex ey hG hx hy z1 z2 z3 z4 z5
  unfold labV
  go_enter Tryz.func23, Tryz.ntmps23
  go_wp2
  generalize w.alloc (.cells #[.int .u64 x, .int .u64 y] 24) = W0 at *
  have td := td _ t1
  go_region_held3 (fun w' => (w'.cell? ⟨w.heap.size, 0, none⟩ = some (.int .u64 x) ∧ w'.cell? ⟨w.heap.size, 1, none⟩ = some (.int .u64 y))) (first | assumption | exact t0 _ (by assumption)) (first
    | (go_at_call 41; (with_reducible refine (F2 _ (by assumption)).mono ?_); rintro e w' ⟨rfl, hk⟩)
    | (go_at_call 41; (with_reducible refine (F1 _ (by assumption)).mono ?_); rintro e w' ⟨rfl, hk⟩))
  go_wp2
  go_ret
  exact ⟨rfl, tb _ (by assumption)⟩
theorem read_any7 (t : List UInt8) (ht : t.length ≤ 1000) (w : World) (hG : Gnd w) :
    Calls Tryz.prog 29 #[.string (strB t)] w fun e w' => e = .returned (.tuple #[.int .u64 (readN t).1, .bool (readN t).2]) ∧ Below w.heap.size w w' := callsIn_wide.1 (read_in 5 (Nat.le_refl _) t _ _ ht rfl w hG)
/-- What Read's calls answer. -/
theorem read_calls (t : List UInt8) (ht : t.length ≤ 1000) :
    ∃ ts t1 t2, (∀ W, Calls Tryz.prog 27 #[.string (strB t), .string ⟨#[115, 58]⟩] W fun e w' => e = .returned (.tuple #[.string ts, .bool (Lib.hasPrefix t [115, 58])]) ∧ w' = W) ∧
      (∀ W, Gnd7 W → Calls Tryz.prog 28 #[.string ts, .string ⟨#[32, 116, 58]⟩] W fun e w' => e = .returned (.tuple #[.string t1, .string t2, .bool (Lib.cut (setsL t) [32, 116, 58]).2.2]) ∧ Below W.heap.size W w' ∧ Gnd7 w') ∧
      (∀ W, Gnd7 W → Calls Tryz.prog 29 #[.string t1] W fun e w' => e = .returned (.tuple #[.int .u64 (readN (oneL t)).1, .bool (readN (oneL t)).2]) ∧ Below W.heap.size W w' ∧ Gnd7 w') ∧
      (∀ W, Gnd7 W → Calls Tryz.prog 29 #[.string t2] W fun e w' => e = .returned (.tuple #[.int .u64 (readN (twoL t)).1, .bool (readN (twoL t)).2]) ∧ Below W.heap.size W w' ∧ Gnd7 w') := by
  obtain ⟨l1, l2, l0⟩ := part_len t
  refine ⟨strB (setsL t), strB (oneL t), strB (twoL t), fun W => Tryz.strings_CutPrefix (strB t) ⟨#[115, 58]⟩ W, fun W h => ?_, fun W h => ?_, fun W h => ?_⟩
  · obtain ⟨m, hm⟩ := h.m
    refine (Tryz.strings_Cut (strB (setsL t)) ⟨#[32, 116, 58]⟩ m W (by rw [strB_size]; omega) hm).mono ?_
    rintro e w' ⟨rfl, n, rfl⟩
    have hb := below_drewN (Below.refl W.heap.size W) n
    exact ⟨rfl, hb, h.below hb⟩
  · refine (read_any7 (oneL t) (by omega) W h.g).mono ?_
    rintro e w' ⟨rfl, hb⟩
    exact ⟨rfl, hb, h.below hb⟩
  · refine (read_any7 (twoL t) (by omega) W h.g).mono ?_
    rintro e w' ⟨rfl, hb⟩
    exact ⟨rfl, hb, h.below hb⟩
def readD (t : List UInt8) : LabD × Bool := if goodL t = true then (⟨(readN (oneL t)).1, (readN (twoL t)).1⟩, true) else (⟨0, 0⟩, false)
set_option maxRecDepth 100000 in
set_option maxHeartbeats 1000000 in
theorem labRead_form (t : List UInt8) (ht : t.length ≤ 1000) (hf : formL t = false) (w : World) (hG : Gnd7 w) :
    Calls Tryz.prog 7 #[.string (strB t)] w fun e w' => e = .returned (.tuple #[.agg #[.int .u64 0, .int .u64 0], .bool false]) ∧ Below w.heap.size w w' := by
  obtain ⟨ts, t1, t2, c1, c2, _, _⟩ := read_calls t ht
  unfold formL at hf
  have b1 := LabBox.new w 0 0 24
  rw [Int.natCast_zero] at b1
  have hb1 : Below w.heap.size w (w.alloc (.cells #[.int .u64 0, .int .u64 0] 24)) := (Below.refl _ w).alloc (Nat.le_refl _) _
  have hG1 := hG.below hb1
  generalize Lib.hasPrefix t [115, 58] = o1 at *
  generalize (Lib.cut (setsL t) [32, 116, 58]).2.2 = o2 at *
  generalize strB t = tb at *
  cases o1 <;> cases o2 <;> first | (exfalso; revert hf; decide) | skip
  all_goals
    clear hf ht
    go_enter Tryz.func7, Tryz.ntmps7
    go_wp2_with fail
    refine (c1 _).mono ?_
    rintro e w1 ⟨rfl, rfl⟩
    go_wp2_with fail
    refine (c2 _ hG1).mono ?_
    rintro e w1 ⟨rfl, k1, hG2⟩
    have b2 := b1.below k1 (by simp)
    have hb2 := below_more hb1 k1 (Nat.le_refl _)
    obtain ⟨d0, d1, _, _, _⟩ := b2
    go_wp2
    refine bodyPost_ret (v := .tuple #[.agg #[.int .u64 0, .int .u64 0], .bool false]) ?_ rfl ⟨rfl, ?_⟩
    · simp [results, Tryz.results7, go_sem, d0, d1]
    · repeat first | exact hb2 | refine below_sc7 ?_ (Nat.le_refl _) _ | refine Below.drew ?_
set_option maxRecDepth 100000 in
set_option maxHeartbeats 1000000 in
theorem labRead_no (t : List UInt8) (ht : t.length ≤ 1000) (hf : formL t = true) (hg : ((readN (oneL t)).2 && (readN (twoL t)).2) = false) (w : World) (hG : Gnd7 w) :
    Calls Tryz.prog 7 #[.string (strB t)] w fun e w' => e = .returned (.tuple #[.agg #[.int .u64 0, .int .u64 0], .bool false]) ∧ Below w.heap.size w w' := by
  obtain ⟨ts, t1, t2, c1, c2, c3, c4⟩ := read_calls t ht
  unfold formL at hf
  have b1 := LabBox.new w 0 0 24
  rw [Int.natCast_zero] at b1
  have hb1 : Below w.heap.size w (w.alloc (.cells #[.int .u64 0, .int .u64 0] 24)) := (Below.refl _ w).alloc (Nat.le_refl _) _
  have hG1 := hG.below hb1
  generalize Lib.hasPrefix t [115, 58] = o1 at *
  generalize (Lib.cut (setsL t) [32, 116, 58]).2.2 = o2 at *
  generalize (readN (oneL t)).2 = o3 at *
  generalize (readN (twoL t)).2 = o4 at *
  generalize (readN (oneL t)).1 = u at *
  generalize (readN (twoL t)).1 = v at *
  generalize strB t = tb at *
  obtain rfl : o1 = true := by revert hf; cases o1 <;> cases o2 <;> decide
  obtain rfl : o2 = true := by revert hf; cases o2 <;> decide
  cases o3 <;> cases o4 <;> first | (exfalso; revert hg; decide) | skip
  all_goals
    clear hf hg ht
    go_enter Tryz.func7, Tryz.ntmps7
    go_wp2_with fail
    refine (c1 _).mono ?_
    rintro e w1 ⟨rfl, rfl⟩
    go_wp2_with fail
    refine (c2 _ hG1).mono ?_
    rintro e w1 ⟨rfl, k1, hG2⟩
    have b2 := b1.below k1 (by simp)
    have hb2 := below_more hb1 k1 (Nat.le_refl _)
    clear b1 hb1 hG1 c1 c2 k1
    go_wp2_with fail
    refine (c3 _ hG2).mono ?_
    rintro e w2 ⟨rfl, k2, hG3⟩
    have b3 := b2.below k2 b2.lt
    have hb3 := below_more hb2 k2 (Nat.le_refl _)
    clear b2 hb2 hG2 c3 k2
    go_wp2_with fail
    refine (c4 _ hG3).mono ?_
    rintro e w3 ⟨rfl, k3, hG4⟩
    have b4 := b3.below k3 b3.lt
    have hb4 := below_more hb3 k3 (Nat.le_refl _)
    obtain ⟨d0, d1, _, _, _⟩ := b4
    clear b3 hb3 hG3 c4 k3
    go_wp2
    refine bodyPost_ret (v := .tuple #[.agg #[.int .u64 0, .int .u64 0], .bool false]) ?_ rfl ⟨rfl, ?_⟩
    · simp [results, Tryz.results7, go_sem, d0, d1]
    · repeat first | exact hb4 | refine below_sc7 ?_ (Nat.le_refl _) _ | refine Below.drew ?_
set_option maxRecDepth 100000 in
set_option maxHeartbeats 1000000 in
theorem labRead_yes (t : List UInt8) (ht : t.length ≤ 1000) (hf : formL t = true) (hg : ((readN (oneL t)).2 && (readN (twoL t)).2) = true) (w : World) (hG : Gnd7 w) :
    Calls Tryz.prog 7 #[.string (strB t)] w fun e w' => e = .returned (.tuple #[.agg #[.int .u64 (readN (oneL t)).1, .int .u64 (readN (twoL t)).1], .bool true]) ∧ Below w.heap.size w w' := by
  obtain ⟨ts, t1, t2, c1, c2, c3, c4⟩ := read_calls t ht
  unfold formL at hf
  have b1 := LabBox.new w 0 0 24
  rw [Int.natCast_zero] at b1
  have hb1 : Below w.heap.size w (w.alloc (.cells #[.int .u64 0, .int .u64 0] 24)) := (Below.refl _ w).alloc (Nat.le_refl _) _
  have hG1 := hG.below hb1
  generalize Lib.hasPrefix t [115, 58] = o1 at *
  generalize (Lib.cut (setsL t) [32, 116, 58]).2.2 = o2 at *
  generalize (readN (oneL t)).2 = o3 at *
  generalize (readN (twoL t)).2 = o4 at *
  generalize (readN (oneL t)).1 = u at *
  generalize (readN (twoL t)).1 = v at *
  generalize strB t = tb at *
  obtain rfl : o1 = true := by revert hf; cases o1 <;> cases o2 <;> decide
  obtain rfl : o2 = true := by revert hf; cases o2 <;> decide
  cases o3 <;> cases o4 <;> first | (exfalso; revert hg; decide) | skip
  all_goals
    clear hf hg ht
    go_enter Tryz.func7, Tryz.ntmps7
    go_wp2_with fail
    refine (c1 _).mono ?_
    rintro e w1 ⟨rfl, rfl⟩
    go_wp2_with fail
    refine (c2 _ hG1).mono ?_
    rintro e w1 ⟨rfl, k1, hG2⟩
    have b2 := b1.below k1 (by simp)
    have hb2 := below_more hb1 k1 (Nat.le_refl _)
    clear b1 hb1 hG1 c1 c2 k1
    go_wp2_with fail
    refine (c3 _ hG2).mono ?_
    rintro e w2 ⟨rfl, k2, hG3⟩
    have b3 := b2.below k2 b2.lt
    have hb3 := below_more hb2 k2 (Nat.le_refl _)
    clear b2 hb2 hG2 c3 k2
    go_wp2_with fail
    refine (c4 _ hG3).mono ?_
    rintro e w3 ⟨rfl, k3, hG4⟩
    have b4 := b3.below k3 b3.lt
    have hb4 := below_more hb3 k3 (Nat.le_refl _)
    obtain ⟨d0, d1, _, _, _⟩ := b4
    clear b3 hb3 hG3 c4 k3
    go_wp2
    refine bodyPost_ret (v := .tuple #[.agg #[.int .u64 u, .int .u64 v], .bool true]) ?_ rfl ⟨rfl, ?_⟩
    · simp [results, Tryz.results7, go_sem, d0, d1]
    · repeat first | exact hb4 | refine below_sc7 ?_ (Nat.le_refl _) _ | refine Below.drew ?_
theorem labRead_any (t : List UInt8) (a : LabD) (o : Bool) (ht : t.length ≤ 1000) (hr : readD t = (a, o)) (w : World) (hG : Gnd7 w) :
    Calls Tryz.prog 7 #[.string (strB t)] w fun e w' => e = .returned (.tuple #[labV a, .bool o]) ∧ Below w.heap.size w w' := by
  unfold readD at hr
  by_cases hg : goodL t = true
  · rw [if_pos hg] at hr
    obtain ⟨rfl, rfl⟩ := Prod.mk.inj hr
    unfold goodL at hg
    rw [Bool.and_eq_true] at hg
    exact labRead_yes t ht hg.1 hg.2 w hG
  · rw [if_neg hg] at hr
    obtain ⟨rfl, rfl⟩ := Prod.mk.inj hr
    rw [Bool.not_eq_true] at hg
    unfold goodL at hg
    by_cases hf : formL t = true
    · rw [hf, Bool.true_and] at hg
      exact labRead_no t ht hf hg w hG
    · rw [Bool.not_eq_true] at hf
      exact labRead_form t ht hf w hG
theorem readD_text (x y : Nat) (hx : x < 18446744073709551616) (hy : y < 18446744073709551616) : readD (labT x y) = (⟨x, y⟩, true) := by
  obtain ⟨h1, h2, h3⟩ := lab_back x y hx hy
  unfold readD
  rw [if_pos h1, h2, h3]
theorem readD_lt (t : List UInt8) : (readD t).1.ok := by
  unfold readD
  split
  · exact ⟨read_lt _, read_lt _⟩
  · exact ⟨by decide, by decide⟩
theorem readD_good {t : List UInt8} {a : LabD} (h : readD t = (a, true)) : labT a.s a.t = t := by
  unfold readD at h
  split at h
  · rename_i hg
    obtain ⟨rfl, _⟩ := Prod.mk.inj h
    exact lab_good hg
  · cases (Prod.mk.inj h).2
theorem readD_bad {t : List UInt8} {a : LabD} (h : readD t = (a, false)) : a = ⟨0, 0⟩ ∧ ∀ x y, x < 18446744073709551616 → y < 18446744073709551616 → labT x y ≠ t := by
  have h0 := h
  unfold readD at h
  split at h
  · cases (Prod.mk.inj h).2
  · refine ⟨(Prod.mk.inj h).1.symm, fun x y hx hy e => ?_⟩
    subst e
    rw [readD_text x y hx hy] at h0
    cases (Prod.mk.inj h0).2
end Go.Proofs.YtcodphddkkjocaaGreatDoor
