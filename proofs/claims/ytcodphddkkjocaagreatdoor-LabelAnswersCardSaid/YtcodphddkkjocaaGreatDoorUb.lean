/- label.Bytes and label.From: what they answer, for every label and for all bytes. -/
import Derived.Test.YtcodphddkkjocaaGreatDoorUa
import Derived.Test.YtcodphddkkjocaaGreatDoorCc
import Derived.Test.YtcodphddkkjocaaGreatDoorVh
import Derived.Deep.RegionHeld3
namespace Go.Proofs.YtcodphddkkjocaaGreatDoor
open Go.RowKit Go.Deep
set_option linter.unusedVariables false

/-- A label's bytes. -/
def labB (a : LabD) : List Int := bytesL a.s 8 ++ bytesL a.t 8
/-- A label lies boxed in a block of the call's own. -/
structure LabSt (w : World) (x y : Nat) (W : World) : Prop where
  c0 : W.cell? ⟨w.heap.size, 0, none⟩ = some (.int .u64 x)
  c1 : W.cell? ⟨w.heap.size, 1, none⟩ = some (.int .u64 y)
  b : Below w.heap.size w W
  lt : w.heap.size < W.heap.size
theorem LabSt.below {w W W' : World} {x y : Nat} (h : LabSt w x y W) (hb : Below W.heap.size W W') : LabSt w x y W' :=
  ⟨(hb.cell (p := ⟨w.heap.size, 0, none⟩) h.lt).trans h.c0, (hb.cell (p := ⟨w.heap.size, 1, none⟩) h.lt).trans h.c1, below_more h.b hb (Nat.le_refl _), Nat.lt_of_lt_of_le h.lt hb.size⟩
theorem LabSt.new (w : World) (x y : Nat) (t : TypeId) : LabSt w x y (w.alloc (.cells #[.int .u64 x, .int .u64 y] t)) := by
  have h := fun i v hi => cell_of_row (w.alloc (.cells #[.int .u64 x, .int .u64 y] t)) w.heap.size i v t (0, 0) hi
  exact ⟨h 0 _ (heap_alloc_new w _), h 1 _ (heap_alloc_new w _), (Below.refl _ _).alloc (Nat.le_refl _) _, by simp⟩
theorem good_bytes {u : Nat} {w' : World} {b : Nat} (h : Ints .u8 w'.heap.size w' (some ⟨b, 0, none⟩) (bytesL u 8)) : Good (some ⟨b, 0, none⟩) 8 (bytesL u 8) w' :=
  ⟨h, by rw [bytesL_length]; exact Nat.le_refl _, fun e => by cases e⟩
/-- The calls that Bytes makes, in worlds in which its label lies. -/
theorem bytes_state (w : World) (x y : Nat) (hx : x < 18446744073709551616) (hy : y < 18446744073709551616) (gt : TypeId) :
    ∃ T : World → Prop, (∀ W, T W → (W.cell? ⟨w.heap.size, 0, none⟩ = some (.int .u64 x) ∧ W.cell? ⟨w.heap.size, 1, none⟩ = some (.int .u64 y))) ∧ T (w.alloc (.cells #[.int .u64 x, .int .u64 y] gt)) ∧ (∀ W, T W → T W.drew) ∧ (∀ W o, T W → T (W.alloc o)) ∧
      (∀ W, T W → Calls Tryz.prog 39 #[.int .u64 x, .int .i64 8] W fun e w' => ∃ A c, e = .returned (.slice A 8 c) ∧ Good A c (bytesL x 8) w' ∧ T w') ∧
      (∀ A c W, T W → Good A c (bytesL x 8) W → Calls Tryz.prog 39 #[.int .u64 y, .int .i64 8] W fun e w' => ∃ A' c', e = .returned (.slice A' 8 c') ∧ Good A' c' (bytesL y 8) w' ∧ Good A c (bytesL x 8) w' ∧ T w') ∧
      (∀ A c A' c' W, T W → Good A c (bytesL x 8) W → Good A' c' (bytesL y 8) W → Calls Tryz.prog 38 #[.slice (some ⟨W.heap.size, 0, none⟩) 2 2] (W.alloc (.cells #[.slice A 8 c, .slice A' 8 c'] 25)) fun e w' => ∃ v, e = .returned v ∧ Owns w.heap.size w' v (bytesL x 8 ++ bytesL y 8) ∧ Below w.heap.size w w' ∧ T w') := by
  have z : ∀ u, u < 18446744073709551616 → u / 2 ^ (8 * 8) = 0 := fun u hu => by
    apply Nat.div_eq_of_lt
    exact hu
  refine ⟨LabSt w x y, fun W h => ⟨h.c0, h.c1⟩, LabSt.new w x y gt, fun W h => h.below (below_drewN (Below.refl _ _) 1), fun W o h => h.below (Below.alloc (Below.refl W.heap.size W) (Nat.le_refl _) o), fun W h => ?_, fun A c W h g => ?_, fun A c A' c' W h g g' => ?_⟩
  · refine (bytes_list x hx 8 (by omega) (z x hx) W).mono ?_
    rintro e w' ⟨rfl, hi, _, _, hb⟩
    exact ⟨_, _, rfl, good_bytes hi, h.below hb⟩
  · refine (bytes_list y hy 8 (by omega) (z y hy) W).mono ?_
    rintro e w' ⟨rfl, hi, _, _, hb⟩
    exact ⟨_, _, rfl, good_bytes hi, g.below hb, h.below hb⟩
  · have hT : TwoAt W.heap.size (.slice A 8 c) (.slice A' 8 c') (W.alloc (.cells #[.slice A 8 c, .slice A' 8 c'] 25)) := by
      have h := fun i v hi => cell_of_row (W.alloc (.cells #[.slice A 8 c, .slice A' 8 c'] 25)) W.heap.size i v 25 (0, 0) hi
      exact ⟨h 0 _ (heap_alloc_new W _), h 1 _ (heap_alloc_new W _), by simp⟩
    refine (concat_two W.heap.size A A' (bytesL x 8) (bytesL y 8) c c' 8 8 (bytesL_length _ _) (bytesL_length _ _) (by omega) (by omega) (by omega) _ hT (g.alloc _) (g'.alloc _)).mono ?_
    rintro e w' ⟨v, rfl, hown, hb⟩
    have h2 := h.below (Below.alloc (Below.refl W.heap.size W) (Nat.le_refl _) (.cells #[.slice A 8 c, .slice A' 8 c'] 25))
    refine ⟨v, rfl, ⟨hown.1, ?_⟩, below_more h2.b hb (Nat.le_refl _), h2.below hb⟩
    rcases hown.2 with k | ⟨g, cap, cur, h1, k2, h3⟩
    · exact .inl k
    · exact .inr ⟨g, cap, cur, h1, Nat.le_trans h2.b.size k2, h3⟩
set_option maxRecDepth 100000 in
set_option maxHeartbeats 1000000 in
theorem labBytes_any (a : LabD) (ha : a.ok) (w : World) : Calls Tryz.prog 21 #[labV a] w (GivesB (labB a) w) := by
  obtain ⟨x, y⟩ := a
  obtain ⟨T, t0, t1, td, tl, F1, F2, F3⟩ := bytes_state w x y ha.1 ha.2 24
  show Calls Tryz.prog 21 #[labV ⟨x, y⟩] w (GivesB (bytesL x 8 ++ bytesL y 8) w)
  unfold labV
  clear ha
  go_enter Tryz.func21, Tryz.ntmps21
  go_wp2
  generalize w.alloc (.cells #[.int .u64 x, .int .u64 y] 24) = W0 at *
  have td := td _ t1
  go_region_held3 (fun w' => (w'.cell? ⟨w.heap.size, 0, none⟩ = some (.int .u64 x) ∧ w'.cell? ⟨w.heap.size, 1, none⟩ = some (.int .u64 y))) (first | assumption | exact t0 _ (by assumption) | exact t0 _ (tl _ _ (by assumption))) (first
    | (go_at_call 38; (with_reducible refine (F3 _ _ _ _ _ (by assumption) (by assumption) (by assumption)).mono ?_); rintro e w' ⟨v, rfl, hown, hb, hk⟩)
    | (go_at_call 39; (with_reducible refine (F2 _ _ _ (by assumption) (by assumption)).mono ?_); rintro e w' ⟨A2, k2, rfl, hg2, hg1, hk⟩)
    | (go_at_call 39; (with_reducible refine (F1 _ (by assumption)).mono ?_); rintro e w' ⟨A1, k1, rfl, hg, hk⟩))
  go_wp2
  go_ret
  exact ⟨v, rfl, hown, hb⟩
/-- A label lies boxed at b, and may be written. -/
structure LabBox (W : World) (b x y : Nat) : Prop where
  c0 : W.cell? ⟨b, 0, none⟩ = some (.int .u64 x)
  c1 : W.cell? ⟨b, 1, none⟩ = some (.int .u64 y)
  f0 : W.frozen? ⟨b, 0, none⟩ = false
  f1 : W.frozen? ⟨b, 1, none⟩ = false
  lt : b < W.heap.size
theorem LabBox.below {W W' : World} {b B x y : Nat} (h : LabBox W b x y) (hb : Below B W W') (hB : b < B) : LabBox W' b x y :=
  ⟨(hb.cell (p := ⟨b, 0, none⟩) hB).trans h.c0, (hb.cell (p := ⟨b, 1, none⟩) hB).trans h.c1, (hb.frozen (p := ⟨b, 0, none⟩) hB).trans h.f0, (hb.frozen (p := ⟨b, 1, none⟩) hB).trans h.f1, Nat.lt_of_lt_of_le h.lt hb.size⟩
theorem LabBox.new (w : World) (x y : Nat) (t : TypeId) : LabBox (w.alloc (.cells #[.int .u64 x, .int .u64 y] t)) w.heap.size x y := by
  have h := fun i v hi => cell_of_row (w.alloc (.cells #[.int .u64 x, .int .u64 y] t)) w.heap.size i v t (0, 0) hi
  exact ⟨h 0 _ (heap_alloc_new w _), h 1 _ (heap_alloc_new w _), by simp [go_sem], by simp [go_sem], by simp⟩
/-- What From is to answer. -/
def fromD (zs : List Int) : LabD × Bool := if zs.length = 16 then (⟨fromN (zs.take 8), fromN (zs.drop 8)⟩, true) else (⟨0, 0⟩, false)
set_option maxRecDepth 100000 in
set_option maxHeartbeats 1000000 in
theorem labFrom_no (A : Option Addr) (c l : Nat) (h : l ≠ 16) (w : World) : Calls Tryz.prog 5 #[.slice A l c] w fun e w' => e = .returned (.tuple #[labV ⟨0, 0⟩, .bool false]) ∧ Below w.heap.size w w' := by
  have hd : ((l : Int) != 16) = true := by simp; omega
  show Calls Tryz.prog 5 #[.slice A l c] w fun e w' => e = .returned (.tuple #[.agg #[.int .u64 0, .int .u64 0], .bool false]) ∧ Below w.heap.size w w'
  clear h
  go_enter Tryz.func5, Tryz.ntmps5
  go_wp2
  refine bodyPost_ret (v := .tuple #[.agg #[.int .u64 0, .int .u64 0], .bool false]) ?_ rfl ⟨rfl, ?_⟩
  · simp [results, Tryz.results5, go_sem]
  · repeat first | exact Below.refl _ _ | refine below_sc7 ?_ (by simp) _ | refine Below.drew ?_ | refine Below.alloc ?_ (by first | (simp; done) | (simp; omega)) _
set_option maxRecDepth 100000 in
set_option maxHeartbeats 1000000 in
theorem labFrom_yes (b off c : Nat) (zs : List Int) (hz : isBytes zs) (hl : zs.length = 16) (w : World) (g : Good (some ⟨b, off, none⟩) c zs w) :
    Calls Tryz.prog 5 #[.slice (some ⟨b, off, none⟩) 16 c] w fun e w' => e = .returned (.tuple #[labV ⟨fromN (zs.take 8), fromN (zs.drop 8)⟩, .bool true]) ∧ Below w.heap.size w w' := by
  have hc : 16 ≤ c := by have := g.2.1; omega
  have F1 : ∀ W, Good (some ⟨b, off, none⟩) c zs W → Calls Tryz.prog 25 #[.slice (some ⟨b, off, none⟩) 8 c] W fun e w' => e = .returned (.tuple #[.int .u64 (fromN (zs.take 8)), .bool true]) ∧ Below W.heap.size W w' := fun W h => by
    have k := from_yes (some ⟨b, off, none⟩) c (zs.take 8) (fun z h => hz z (List.mem_of_mem_take h)) (by rw [List.length_take]; omega) W (h.take 8).1
    rwa [List.length_take, hl] at k
  have F2 : ∀ W, Good (some ⟨b, off, none⟩) c zs W → Calls Tryz.prog 25 #[.slice (some ⟨b, off + 8, none⟩) 8 (c - 8)] W fun e w' => e = .returned (.tuple #[.int .u64 (fromN (zs.drop 8)), .bool true]) ∧ Below W.heap.size W w' := fun W h => by
    have k := from_yes (some ⟨b, off + 8, none⟩) (c - 8) (zs.drop 8) (fun z h => hz z (List.mem_of_mem_drop h)) (by rw [List.length_drop]; omega) W (h.drop 8 (by omega)).1
    rwa [List.length_drop, hl] at k
  generalize fromN (zs.take 8) = p at *
  generalize fromN (zs.drop 8) = q at *
  have g1 := g.alloc (.cells #[.int .u64 0, .int .u64 0] 24)
  have b1 := LabBox.new w 0 0 24
  rw [Int.natCast_zero] at b1
  show Calls Tryz.prog 5 #[.slice (some ⟨b, off, none⟩) 16 c] w fun e w' => e = .returned (.tuple #[.agg #[.int .u64 p, .int .u64 q], .bool true]) ∧ Below w.heap.size w w'
  clear hl hz
  go_enter Tryz.func5, Tryz.ntmps5
  go_wp2_with fail
  refine (F1 _ g1).mono ?_
  rintro e w1 ⟨rfl, k1⟩
  have b2 := b1.below k1 (by simp)
  have g2 := g1.below k1
  have hB1 : Below w.heap.size w w1 := below_more ((Below.refl _ w).alloc (Nat.le_refl _) _) k1 (Nat.le_refl _)
  clear k1 b1 g1 F1
  go_wp2_with fail
  refine (F2 _ g2).mono ?_
  rintro e w2 ⟨rfl, k2⟩
  have b3 := b2.below k2 b2.lt
  have hB2 := below_more hB1 k2 (Nat.le_refl _)
  obtain ⟨c0, c1, _, _, _⟩ := b3
  clear F2 k2 b2 g2 hB1
  go_wp2
  refine bodyPost_ret (v := .tuple #[.agg #[.int .u64 p, .int .u64 q], .bool true]) ?_ rfl ⟨rfl, ?_⟩
  · simp [results, Tryz.results5, go_sem, c0, c1]
  · repeat first | exact hB2 | refine below_sc7 ?_ (by simp) _ | refine Below.drew ?_
end Go.Proofs.YtcodphddkkjocaaGreatDoor
