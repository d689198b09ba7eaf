/- What layer 2's landed calls answer, for every input: the bundle SumOK that the statements' walks take. -/
import Derived.Test.YtnllacoimffjpaaSl
import Derived.Deep.RegionHeld3
namespace Go.Proofs.Ytnllacoimffjpaa
open Go.RowKit Go.Deep

theorem three_of (q : Nat) (hq : q < 16777216) (w : World) : Calls Try.prog 17 #[.int .i64 (q : Int)] w fun e w' => ∃ A2 k2, e = .returned (.slice A2 3 k2) ∧ Good A2 k2 (threeL q) w' ∧ Below w.heap.size w w' := by
  refine (three_any (q : Int) (threeL q) (by rw [low24_of _ hq]) w).mono ?_
  rintro e w' ⟨v, rfl, hown, hbel⟩
  obtain ⟨A2, k2, rfl, hg⟩ := hown.good
  exact ⟨A2, k2, rfl, hg, hbel⟩

set_option maxHeartbeats 1000000 in
theorem fits_any (A A' : Option Addr) (zs ts : List Int) (c c' l l' : Nat) (o : Bool) (hll : zs.length = l) (hll' : ts.length = l') (hz : isBytes zs) (ht : isBytes ts) (hl : l ≤ 2100) (ho : (threeL (sumB zs) == ts) = o) (w : World) (g : Good A c zs w) (g' : Good A' c' ts w) :
    Calls Try.prog 19 #[.slice A l c, .slice A' l' c'] w fun e w' => e = .returned (.bool o) ∧ Below w.heap.size w w' := by
  have c1 := sum_any A zs c l (sumB zs) hll hz hl rfl w g.1
  have c2 := three_of (sumB zs) (sumB_lt hz) w
  have c3 := fun A2 k2 W => equal_any A' A2 ts (threeL (sumB zs)) c' k2 l' 3 o hll' rfl ht (threeL_bytes _) (by rw [← ho, Bool.eq_iff_iff, beq_iff_eq, beq_iff_eq]; exact eq_comm) W
  generalize sumB zs = q at *
  go_enter Try.func19, Try.ntmps19
  go_wp2_with (first | (go_at_call 12; refine c1.mono ?_; rintro e w' ⟨rfl, rfl⟩) | (go_at_call 17; refine c2.mono ?_; rintro e w1 ⟨A2, k2, rfl, g2, hbel⟩) | (go_at_call 25; refine (c3 _ _ _ (g'.below hbel) g2).mono ?_; rintro e w' ⟨rfl, rfl⟩))
  go_ret
  exact ⟨rfl, hbel⟩

set_option maxHeartbeats 1000000 in
theorem seal_any (A : Option Addr) (zs ss : List Int) (c l : Nat) (hll : zs.length = l) (hz : isBytes zs) (hl : l ≤ 2100) (hs : sealL zs = ss) (w : World) (g : Good A c zs w) :
    Calls Try.prog 20 #[.slice A l c] w (GivesB ss w) := by
  have c1 := sum_any A zs c l (sumB zs) hll hz hl rfl w g.1
  have c2 := three_of (sumB zs) (sumB_lt hz) w
  subst hs
  unfold sealL
  have c3 := fun B A2 k2 W => concat_two B A A2 zs (threeL (sumB zs)) c k2 l 3 hll rfl (by omega) (by omega) (by omega) W
  generalize sumB zs = q at *
  go_enter Try.func20, Try.ntmps20
  go_wp2_with (first | (go_at_call 12; refine c1.mono ?_; rintro e w' ⟨rfl, rfl⟩) | (go_at_call 17; refine c2.mono ?_; rintro e w1 ⟨A2, k2, rfl, g2, hbel⟩))
  have hT : TwoAt w1.heap.size (.slice A l c) (.slice A2 3 k2) (w1.alloc (.cells #[.slice A l c, .slice A2 3 k2] 22)) := by
    have h := fun i v hi => cell_of_row (w1.alloc (.cells #[.slice A l c, .slice A2 3 k2] 22)) w1.heap.size i v 22 (0, 0) hi
    exact ⟨h 0 _ (heap_alloc_new w1 _), h 1 _ (heap_alloc_new w1 _), by simp⟩
  refine (c3 _ _ _ _ hT ((g.below hbel).alloc _) (g2.alloc _)).mono ?_
  rintro e w2 ⟨v, rfl, hown, hb2⟩
  go_wp2
  go_ret
  have hb3 : Below w.heap.size w (w1.alloc (.cells #[.slice A l c, .slice A2 3 k2] 22)) := hbel.alloc hbel.size _
  refine ⟨v, rfl, ?_, below_more hb3 hb2 (Nat.le_refl _)⟩
  refine ⟨hown.1, ?_⟩
  rcases hown.2 with h | ⟨g, cap, cur, h1, h2, h3⟩
  · exact .inl h
  · exact .inr ⟨g, cap, cur, h1, Nat.le_trans hb3.size h2, h3⟩

set_option maxHeartbeats 1000000 in
theorem open_short (A : Option Addr) (c l : Nat) (h : l < 3) (w : World) :
    Calls Try.prog 10 #[.slice A l c] w fun e w' => e = .returned (.tuple #[.slice none 0 0, .bool false]) ∧ Dr w w' := by
  have i0 : (l : Int) - 3 < 0 := by omega
  go_enter Try.func10, Try.ntmps10
  go_wp2
  go_quiet (fail)
  go_wp2
  go_ret2
  exact ⟨rfl, Dr.of _⟩

structure OpSt (w : World) (zs : List Int) (A : Option Addr) (c : Nat) (w' : World) : Prop where
  b : Below w.heap.size w w'
  z : Good A c zs w'
theorem OpSt.below {w : World} {zs : List Int} {A : Option Addr} {c : Nat} {W W' : World} (h : OpSt w zs A c W) (hb : Below W.heap.size W W') : OpSt w zs A c W' := ⟨below_more h.b hb (Nat.le_refl _), h.z.below hb⟩
theorem OpSt.drew {w : World} {zs : List Int} {A : Option Addr} {c : Nat} {W : World} (h : OpSt w zs A c W) : OpSt w zs A c W.drew := h.below (below_drewN (Below.refl _ _) 1)

/-- The parts of what Open is handed: all but three bytes, and these. -/
theorem open_state (b off : Nat) (zs : List Int) (c m : Nat) (o : Bool) (hll : zs.length = m + 3) (hz : isBytes zs) (hl : m + 3 ≤ 2100) (ho : (threeL (sumB (zs.take m)) == zs.drop m) = o) (w : World) (g : Good (some ⟨b, off, none⟩) c zs w) :
    ∃ T : World → Prop, T w ∧ (∀ W, T W → T W.drew) ∧ (∀ W, T W → Below w.heap.size w W) ∧
      (∀ W, T W → Calls Try.prog 19 #[.slice (some ⟨b, off, none⟩) m c, .slice (some ⟨b, off + m, none⟩) 3 (c - m)] W fun e w' => e = .returned (.bool o) ∧ T w') ∧
      (∀ W, T W → Calls Try.prog 22 #[.slice (some ⟨b, off, none⟩) m c] W fun e w' => ∃ A3 c3, e = .returned (.slice A3 m c3) ∧ Good A3 c3 (zs.take m) w' ∧ T w') := by
  have hlt : (zs.take m).length = m := by rw [List.length_take]; omega
  refine ⟨OpSt w zs (some ⟨b, off, none⟩) c, ⟨Below.refl _ _, g⟩, fun W h => h.drew, fun W h => h.b, fun W h => ?_, fun W h => ?_⟩
  · refine (fits_any (some ⟨b, off, none⟩) (some ⟨b, off + m, none⟩) (zs.take m) (zs.drop m) c (c - m) m 3 o hlt (by rw [List.length_drop]; omega) (hz.take m) (hz.drop m) (by omega) ho W (h.z.take m) (h.z.drop m (by omega))).mono ?_
    rintro e w' ⟨rfl, k⟩; exact ⟨rfl, h.below k⟩
  · refine (clone_any (some ⟨b, off, none⟩) (zs.take m) c m hlt (by omega) W (h.z.take m)).mono ?_
    rintro e w' ⟨v, rfl, o3, k⟩
    obtain ⟨A3, c3, rfl, g3⟩ := o3.good
    exact ⟨A3, c3, by rw [hlt], g3, h.below k⟩

set_option maxHeartbeats 1000000 in
theorem open_no (b off : Nat) (zs : List Int) (c m : Nat) (hll : zs.length = m + 3) (hz : isBytes zs) (hl : m + 3 ≤ 2100) (ho : (threeL (sumB (zs.take m)) == zs.drop m) = false) (w : World) (g : Good (some ⟨b, off, none⟩) c zs w) :
    Calls Try.prog 10 #[.slice (some ⟨b, off, none⟩) (m + 3) c] w (OpenSays [] false w) := by
  have hc := g.2.1
  obtain ⟨T, t0, td, tb, F1, F2⟩ := open_state b off zs c m false hll hz hl ho w g
  clear ho g hz
  have i2 : ¬ c = m := by omega
  have i3 : m ≤ c := by omega
  have i0 : (0 : Int) ≤ (m : Int) := by omega
  have i1 : (m : Int) ≤ (m : Int) + 3 := by omega
  clear hc hll
  go_enter Try.func10, Try.ntmps10
  go_wp2_with fail
  go_region_held3 (fun w' => T w') (first | assumption | exact td _ (by assumption)) ((go_at_call 19; refine (F1 _ (by assumption)).mono ?_; rintro e w' ⟨rfl, hk⟩))
  go_wp2
  go_ret2
  exact ⟨none, 0, rfl, Good.nil _, tb _ (by assumption)⟩

set_option maxHeartbeats 1000000 in
theorem open_yes (b off : Nat) (zs : List Int) (c m : Nat) (hll : zs.length = m + 3) (hz : isBytes zs) (hl : m + 3 ≤ 2100) (ho : (threeL (sumB (zs.take m)) == zs.drop m) = true) (w : World) (g : Good (some ⟨b, off, none⟩) c zs w) :
    Calls Try.prog 10 #[.slice (some ⟨b, off, none⟩) (m + 3) c] w (OpenSays (zs.take m) true w) := by
  have hc := g.2.1
  obtain ⟨T, t0, td, tb, F1, F2⟩ := open_state b off zs c m true hll hz hl ho w g
  have hlt : (zs.take m).length = m := by rw [List.length_take]; omega
  clear ho g hz
  have i2 : ¬ c = m := by omega
  have i3 : m ≤ c := by omega
  have i0 : (0 : Int) ≤ (m : Int) := by omega
  have i1 : (m : Int) ≤ (m : Int) + 3 := by omega
  clear hc hll
  have hlt := Lib.hid hlt
  generalize zs.take m = xs at *
  go_enter Try.func10, Try.ntmps10
  go_wp2_with fail
  go_region_held3 (fun w' => T w') (first | assumption | exact td _ (by assumption)) ((go_at_call 19; refine (F1 _ (by assumption)).mono ?_; rintro e w' ⟨rfl, hk⟩))
  go_wp2_with (go_at_call 22; refine (F2 _ (by assumption)).mono ?_; rintro e w' ⟨A3, c3, rfl, g3, hk⟩)
  go_ret2
  exact ⟨A3, c3, by rw [hlt.out]; rfl, g3, tb _ (by assumption)⟩

theorem open_any (A : Option Addr) (zs xs : List Int) (c l : Nat) (o : Bool) (hll : zs.length = l) (hz : isBytes zs) (hl : l ≤ 2100) (ho : openOK zs = o) (hx : openL zs = xs) (w : World) (g : Good A c zs w) :
    Calls Try.prog 10 #[.slice A l c] w (OpenSays xs o w) := by
  unfold openL at hx
  rw [ho, hll] at hx
  unfold openOK at ho
  rw [hll] at ho
  by_cases h3 : 3 ≤ l
  · obtain ⟨b, off, rfl⟩ := g.some (by omega)
    obtain ⟨m, rfl⟩ : ∃ m, l = m + 3 := ⟨l - 3, by omega⟩
    rw [decide_eq_true h3, Bool.true_and, show m + 3 - 3 = m by omega] at ho
    have ho2 : (threeL (sumB (zs.take m)) == zs.drop m) = o := by rw [← ho, Bool.eq_iff_iff, beq_iff_eq, beq_iff_eq]; exact eq_comm
    rw [show m + 3 - 3 = m by omega] at hx
    subst hx
    cases o with
    | false => exact open_no b off zs c m hll hz hl ho2 w g
    | true => exact open_yes b off zs c m hll hz hl ho2 w g
  · rw [decide_eq_false h3, Bool.false_and] at ho
    subst ho
    subst hx
    refine (open_short A c l (by omega) w).mono ?_
    rintro e w' ⟨rfl, hd⟩
    exact ⟨none, 0, rfl, Good.nil _, hd.below _ (Nat.le_refl _)⟩

theorem sumOK : SumOK where
  more := fun n A zs c l q _ _ hll hz hl hq w g => by
    refine (more_any n A zs c l q (Lib.hid hll) hz hl (Lib.hid hq) w g.1).mono ?_
    rintro e w' ⟨rfl, rfl⟩; exact ⟨rfl, Below.refl _ _⟩
  sum := fun A zs c l q hll hz hl hq w g => by
    refine (sum_any A zs c l q hll hz hl hq w g.1).mono ?_
    rintro e w' ⟨rfl, rfl⟩; exact ⟨rfl, Below.refl _ _⟩
  three := fun n ts _ _ ht w => three_any n ts ht w
  fits := fun A A' zs ts c c' l l' o hll hll' hz ht hl _ ho w g g' => fits_any A A' zs ts c c' l l' o hll hll' hz ht hl ho w g g'
  seals := fun A zs ss c l hll hz hl hs w g => seal_any A zs ss c l hll hz hl hs w g
  opens := fun A zs xs c l o hll hz hl ho hx w g => open_any A zs xs c l o hll hz hl ho hx w g
end Go.Proofs.Ytnllacoimffjpaa
