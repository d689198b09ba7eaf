/- The walk of the statement SumFits, over what layer 2's calls answer. -/
import Derived.Test.YtnllacoimffjpaaSb
import Derived.Deep.RegionHeld3
namespace Go.Proofs.Ytnllacoimffjpaa
open Go.RowKit Go.Deep

theorem beq_swap (a b : List Int) : (a == b) = (b == a) := by rw [Bool.eq_iff_iff]; simp only [beq_iff_eq]; exact eq_comm
structure St (w : World) (zs ts ss : List Int) (A : Option Addr) (c : Nat) (A' : Option Addr) (c' : Nat) (A2 : Option Addr) (c2 : Nat) (w' : World) : Prop where
  b : Below w.heap.size w w'
  z : Good A c zs w'
  t : Good A' c' ts w'
  s : Good A2 c2 ss w'
theorem St.below {w : World} {zs ts ss : List Int} {A : Option Addr} {c : Nat} {A' : Option Addr} {c' : Nat} {A2 : Option Addr} {c2 : Nat} {W W' : World} (h : St w zs ts ss A c A' c' A2 c2 W) (hb : Below W.heap.size W W') : St w zs ts ss A c A' c' A2 c2 W' := ⟨below_more h.b hb (Nat.le_refl _), h.z.below hb, h.t.below hb, h.s.below hb⟩
theorem St.drew {w : World} {zs ts ss : List Int} {A : Option Addr} {c : Nat} {A' : Option Addr} {c' : Nat} {A2 : Option Addr} {c2 : Nat} {W : World} (h : St w zs ts ss A c A' c' A2 c2 W) : St w zs ts ss A c A' c' A2 c2 W.drew := h.below (below_drewN (Below.refl _ _) 1)

set_option maxHeartbeats 1000000 in
theorem sumFits_long (A A' : Option Addr) (l l' c c' : Nat) (m : l ≤ 9223372036854775807) (m' : l' ≤ 9223372036854775807) (h : 1000 < l ∨ (l ≤ 1000 ∧ 100 < l')) (w : World) (hA : Hid (Calls Try.prog 8 #[] w fun e w' => e = .returned (.bool true) ∧ Below w.heap.size w w')) :
    Calls Try.prog 7 #[.slice A l c, .slice A' l' c'] w fun e w' => e = .returned (.bool true) ∧ Below w.heap.size w w' := by
  rcases h with h | ⟨h1, h2⟩
  all_goals
    go_enter Try.func7, Try.ntmps7
    go_wp2_with fail
    refine hA.out.mono ?_
    clear hA
    rintro e w1 ⟨rfl, hb⟩
    go_wp2
    go_ret
    exact ⟨rfl, hb⟩

set_option maxHeartbeats 1000000 in
theorem sumFits_in (S : SumOK) (A A' : Option Addr) (zs ts : List Int) (l l' c c' : Nat) (hll : zs.length = l) (hll' : ts.length = l') (hz : isBytes zs) (ht : isBytes ts) (h1 : l ≤ 1000) (h2 : l' ≤ 100) (w : World) (g : Good A c zs w) (g' : Good A' c' ts w) (hA : Hid (Calls Try.prog 8 #[] w fun e w' => e = .returned (.bool true) ∧ Below w.heap.size w w')) :
    Calls Try.prog 7 #[.slice A l c, .slice A' l' c'] w fun e w' => e = .returned (.bool true) ∧ Below w.heap.size w w' := by
  go_enter Try.func7, Try.ntmps7
  go_wp2_with fail
  refine hA.out.mono ?_
  clear hA
  rintro e w1 ⟨rfl, b1⟩
  have g1 := g.below b1
  have g1' := g'.below b1
  clear g g'
  go_wp2_with fail
  refine (S.seals A zs (sealL zs) c l hll hz (by omega) rfl w1 g1).mono ?_
  rintro e w2 ⟨v, rfl, o2, k2⟩
  have b2 := below_more b1 k2 (Nat.le_refl _)
  obtain ⟨A2, c2, rfl, g2⟩ := o2.good
  have g2z := g1.below k2
  have g2t := g1'.below k2
  rw [sealL_length, hll]
  obtain ⟨b', off', rfl⟩ := g2.some (by rw [sealL_length]; omega)
  have hlc : l + 3 ≤ c2 := by have := g2.2.1; rw [sealL_length, hll] at this; exact this
  have hd3 : (sealL zs).drop l = threeL (sumB zs) := by rw [← hll]; unfold sealL; rw [List.drop_left]
  obtain ⟨q, hq⟩ : ∃ q, q = sumB zs := ⟨_, rfl⟩
  have hql : q < 16777216 := by rw [hq]; exact sumB_lt hz
  obtain ⟨o, ho⟩ : ∃ o, o = (threeL q == ts) := ⟨_, rfl⟩
  have ho' : (ts == threeL q) = o := by rw [ho, beq_swap]
  have hT : ∃ T : World → Prop, T w2 ∧ (∀ W, T W → T W.drew) ∧ (∀ W, T W → Below w.heap.size w W) ∧
      (∀ W, T W → Calls Try.prog 19 #[.slice A l c, .slice (some ⟨b', off' + l, none⟩) 3 (c2 - l)] W fun e w' => e = .returned (.bool true) ∧ T w') ∧
      (∀ W, T W → Calls Try.prog 19 #[.slice A l c, .slice A' l' c'] W fun e w' => e = .returned (.bool o) ∧ T w') ∧
      (∀ W, T W → Calls Try.prog 16 #[.slice A' l' c', .slice (some ⟨b', off' + l, none⟩) 3 (c2 - l)] W fun e w' => e = .returned (.bool o) ∧ T w') ∧
      (∀ W, T W → Calls Try.prog 12 #[.slice A l c] W fun e w' => e = .returned (.int .i64 q) ∧ T w') ∧
      (∀ W, T W → Calls Try.prog 17 #[.int .i64 q] W fun e w' => ∃ A3 c3, e = .returned (.slice A3 3 c3) ∧ Good A3 c3 (threeL q) w' ∧ T w') ∧
      (∀ W A3 c3, Good A3 c3 (threeL q) W → T W → Calls Try.prog 16 #[.slice A3 3 c3, .slice (some ⟨b', off' + l, none⟩) 3 (c2 - l)] W fun e w' => e = .returned (.bool true) ∧ T w') := by
    refine ⟨St w zs ts (sealL zs) A c A' c' (some ⟨b', off', none⟩) c2, ⟨b2, g2z, g2t, g2⟩, fun W h => h.drew, fun W h => h.b, fun W h => ?_, fun W h => ?_, fun W h => ?_, fun W h => ?_, fun W h => ?_, fun W A3 c3 g3 h => ?_⟩
    · have gd := h.s.drop l (by rw [sealL_length]; omega)
      rw [hd3] at gd
      refine (S.fits A _ zs _ c _ l 3 true hll rfl hz (threeL_bytes _) (by omega) (by omega) (by simp) W h.z gd).mono ?_
      rintro e w' ⟨rfl, k⟩; exact ⟨rfl, h.below k⟩
    · refine (S.fits A A' zs ts c c' l l' o hll hll' hz ht (by omega) (by omega) (by rw [ho, hq]) W h.z h.t).mono ?_
      rintro e w' ⟨rfl, k⟩; exact ⟨rfl, h.below k⟩
    · have gd := h.s.drop l (by rw [sealL_length]; omega)
      rw [hd3, ← hq] at gd
      refine (sameB A' _ ts _ c' _ l' 3 o hll' rfl (by omega) (by omega) ho' W h.t gd).mono ?_
      rintro e w' ⟨rfl, k⟩; exact ⟨rfl, h.below k⟩
    · refine (S.sum A zs c l q hll hz (by omega) hq.symm W h.z).mono ?_
      rintro e w' ⟨rfl, k⟩; exact ⟨rfl, h.below k⟩
    · refine (S.three q (threeL q) (by omega) (by omega) (by rw [low24_of q hql]) W).mono ?_
      rintro e w' ⟨v, rfl, o3, k⟩
      obtain ⟨A3, c3, rfl, g3⟩ := o3.good
      exact ⟨A3, c3, rfl, g3, h.below k⟩
    · have gd := h.s.drop l (by rw [sealL_length]; omega)
      rw [hd3, ← hq] at gd
      refine (sameB A3 _ (threeL q) _ c3 _ 3 3 true rfl rfl (by omega) (by omega) (by simp) W g3 gd).mono ?_
      rintro e w' ⟨rfl, k⟩; exact ⟨rfl, h.below k⟩
  clear hd3 hq ho ho' g2 g2z g2t k2 b2 g1 g1' b1 o2 S hll hll' hz ht
  obtain ⟨T, t0, td, tb, F1, F2, F3, F4, F5, F6⟩ := hT
  have i0 : (0 : Int) ≤ (l : Int) := by omega
  have i1 : (l : Int) ≤ (l : Int) + 3 := by omega
  have i2 : ¬ c2 = l := by omega
  have i3 : (o == o) = true := by simp
  go_wp2_with fail
  go_region_held3 (fun w' => T w') (first | assumption | exact td _ (by assumption)) (first
    | (go_at_call_of 19 A'; refine (F2 _ (by assumption)).mono ?_; rintro e w' ⟨rfl, hk⟩)
    | (go_at_call 19; refine (F1 _ (by assumption)).mono ?_; rintro e w' ⟨rfl, hk⟩)
    | (go_at_call_of 16 A'; refine (F3 _ (by assumption)).mono ?_; rintro e w' ⟨rfl, hk⟩)
    | (go_at_call 16; refine (F6 _ _ _ (by assumption) (by assumption)).mono ?_; rintro e w' ⟨rfl, hk⟩)
    | (go_at_call 12; refine (F4 _ (by assumption)).mono ?_; rintro e w' ⟨rfl, hk⟩)
    | (go_at_call 17; refine (F5 _ (by assumption)).mono ?_; rintro e w' ⟨A3, c3, rfl, g3, hk⟩))
  clear td F1 F2 F3 F4 F5 F6
  go_wp2
  go_ret
  exact ⟨rfl, tb _ (by assumption)⟩

theorem sumFits_any (S : SumOK) (hA : ∀ w, Calls Try.prog 8 #[] w fun e w' => e = .returned (.bool true) ∧ Below w.heap.size w w') (A A' : Option Addr) (zs ts : List Int) (l l' c c' : Nat) (hll : zs.length = l) (hll' : ts.length = l') (m : l ≤ 9223372036854775807) (m' : l' ≤ 9223372036854775807) (hz : isBytes zs) (ht : isBytes ts) (w : World) (g : Good A c zs w) (g' : Good A' c' ts w) :
    Calls Try.prog 7 #[.slice A l c, .slice A' l' c'] w fun e w' => e = .returned (.bool true) ∧ Below w.heap.size w w' := by
  by_cases h : l ≤ 1000 ∧ l' ≤ 100
  · exact sumFits_in S A A' zs ts l l' c c' hll hll' hz ht h.1 h.2 w g g' (Lib.hid (hA w))
  · exact sumFits_long A A' l l' c c' m m' (by omega) w (Lib.hid (hA w))
end Go.Proofs.Ytnllacoimffjpaa
