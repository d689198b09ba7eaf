/- The walk of the statement SumSeals, over what layer 2's calls answer. -/
import Derived.Test.YtnllacoimffjpaaSe
namespace Go.Proofs.Ytnllacoimffjpaa
open Go.RowKit Go.Deep

set_option maxHeartbeats 1000000 in
theorem sumSeals_long (A A' : Option Addr) (l l' c c' : Nat) (m : l ≤ 9223372036854775807) (m' : l' ≤ 9223372036854775807) (h : 1000 < l ∨ (l ≤ 1000 ∧ 100 < l')) (w : World) (hA : Hid (Alive w)) :
    Calls Try.prog 6 #[.slice A l c, .slice A' l' c'] w fun e w' => e = .returned (.bool true) ∧ Below w.heap.size w w' := by
  rcases h with h | ⟨h1, h2⟩
  all_goals
    go_enter Try.func6, Try.ntmps6
    go_wp2_with fail
    refine Calls.mono hA.out ?_
    clear hA
    rintro e w1 ⟨rfl, hb⟩
    go_wp2
    go_ret
    exact ⟨rfl, hb⟩

set_option maxHeartbeats 1000000 in
theorem sumSeals_in (S : SumOK) (A A' : Option Addr) (zs ts : List Int) (l l' c c' : Nat) (o : Bool) (ho : openOK (zs ++ ts) = o) (hll : zs.length = l) (hll' : ts.length = l') (hz : isBytes zs) (ht : isBytes ts) (h1 : l ≤ 1000) (h2 : l' ≤ 100) (w : World) (g : Good A c zs w) (g' : Good A' c' ts w) (hA : Hid (Alive w)) :
    Calls Try.prog 6 #[.slice A l c, .slice A' l' c'] w fun e w' => e = .returned (.bool true) ∧ Below w.heap.size w w' := by
  have hsl : (sealL zs).length = l + 3 := by rw [sealL_length, hll]
  have hsl2 : (sealL (sealL zs)).length = l + 3 + 3 := by rw [sealL_length, hsl]
  have hop := open_seal zs
  have hop2 := open_seal (sealL zs)
  have hsb := sealL_bytes hz
  have hsb2 := sealL_bytes hsb
  go_enter Try.func6, Try.ntmps6
  go_wp2_with fail
  refine Calls.mono hA.out ?_
  clear hA
  rintro e w1 ⟨rfl, b1⟩
  have g1 := g.below b1
  have g1' := g'.below b1
  clear g g'
  go_wp2_with fail
  refine (S.seals A zs _ c l hll hz (by omega) rfl w1 g1).mono ?_
  rintro e w2 ⟨v, rfl, o2, k2⟩
  obtain ⟨A2, c2, rfl, g2⟩ := o2.good
  have b2 := below_more b1 k2 (Nat.le_refl _)
  have gz2 := g1.below k2
  have gt2 := g1'.below k2
  clear o2 k2 g1 g1' b1
  have q2 := S.seals A2 (sealL zs) _ c2 (l + 3) hsl hsb (by omega) rfl w2 g2
  rw [hsl]
  go_wp2_with fail
  refine q2.mono ?_
  clear q2 g2
  rintro e w3 ⟨v, rfl, o3, k3⟩
  obtain ⟨A3, c3, rfl, g3⟩ := o3.good
  have b3 := below_more b2 k3 (Nat.le_refl _)
  have gz3 := gz2.below k3
  have gt3 := gt2.below k3
  clear o3 k3 gz2 gt2 b2
  have q3 := S.opens A3 (sealL (sealL zs)) (sealL zs) c3 (l + 3 + 3) true hsl2 hsb2 (by omega) hop2.1 hop2.2 w3 g3
  rw [hsl2]
  go_wp2_with fail
  refine q3.mono ?_
  clear q3 g3
  rintro e w4 ⟨A4, c4, rfl, g4, k4⟩
  have b4 := below_more b3 k4 (Nat.le_refl _)
  have gz4 := gz3.below k4
  have gt4 := gt3.below k4
  clear k4 gz3 gt3 b3
  have q4 := S.opens A4 (sealL zs) zs c4 (l + 3) true hsl hsb (by omega) hop.1 hop.2 w4 g4
  rw [hsl]
  go_wp2_with fail
  refine q4.mono ?_
  clear q4 g4
  rintro e w5 ⟨A5, c5, rfl, g5, k5⟩
  have b5 := below_more b4 k5 (Nat.le_refl _)
  have gz5 := gz4.below k5
  have gt5 := gt4.below k5
  clear k5 gz4 gt4 b4
  rw [hll]
  go_wp2_with fail
  refine (copyB A zs c l hll (by omega) w5 gz5).mono ?_
  rintro e w6 ⟨v, rfl, o6, k6⟩
  go_wp2_with (at_builtin; refine wpList_appendB rfl _ _ rfl w5.heap.size v zs rfl o6 A' ts l' c' rfl hll' (gt5.below k6) (by omega) k6.size w5 k6 ?_; intro v7 w7 o7 k7)
  obtain ⟨A7, c7, rfl, g7⟩ := o7.good
  have gz7 := gz5.below k7
  have gt7 := gt5.below k7
  have gy7 := g5.below k7
  have b7 := below_more b5 k7 (Nat.le_refl _)
  clear o6 o7 k6 k7 gz5 gt5 g5 b5
  have hzt : isBytes (zs ++ ts) := hz.append ht
  have hlen : (zs ++ ts).length = l + l' := by rw [List.length_append, hll, hll']
  have q7 := S.opens A7 (zs ++ ts) (openL (zs ++ ts)) c7 (l + l') o hlen hzt (by omega) ho rfl w7 g7
  rw [hlen]
  go_wp2_with fail
  refine q7.mono ?_
  clear q7 g7
  rintro e w8 ⟨A8, c8, rfl, g8, k8⟩
  have b8 := below_more b7 k8 (Nat.le_refl _)
  have gz8 := gz7.below k8
  have gt8 := gt7.below k8
  have gy8 := gy7.below k8
  clear k8 gz7 gt7 gy7 b7
  go_wp2_with fail
  refine (sameB A5 A zs zs c5 c l l true hll hll (by omega) (by omega) (by simp) w8 gy8 gz8).mono ?_
  rintro e w9 ⟨rfl, k9⟩
  have b9 := below_more b8 k9 (Nat.le_refl _)
  have gz9 := gz8.below k9
  have gt9 := gt8.below k9
  have gx9 := g8.below k9
  clear k9 gz8 gt8 gy8 b8 g8
  cases o with
  | false =>
    go_wp2
    go_ret
    exact ⟨rfl, b9⟩
  | true =>
    have hxl := openL_length (zs ++ ts)
    rw [hlen] at hxl
    have hxb := openL_bytes hzt
    have hxs := open_is ho
    generalize openL (zs ++ ts) = xs at *
    obtain ⟨lx, hlx⟩ : ∃ lx, xs.length = lx := ⟨_, rfl⟩
    have q9 := S.seals A8 xs (zs ++ ts) c8 lx hlx hxb (by omega) hxs w9 gx9
    rw [hlx]
    go_wp2_with fail
    refine q9.mono ?_
    clear q9 gx9
    rintro e w10 ⟨v10, rfl, o10, k10⟩
    obtain ⟨A10, c10, rfl, g10⟩ := o10.good
    have b10 := below_more b9 k10 (Nat.le_refl _)
    have gz10 := gz9.below k10
    have gt10 := gt9.below k10
    clear k10 gz9 gt9 b9 o10
    rw [hlen]
    go_wp2_with fail
    refine (copyB A zs c l hll (by omega) w10 gz10).mono ?_
    rintro e w11 ⟨v, rfl, o11, k11⟩
    go_wp2_with (at_builtin; refine wpList_appendW (by rfl) _ _ rfl w10.heap.size v zs rfl o11 A' ts l' c' rfl hll' (gt10.below k11) (by omega) k11.size w10 k11 ?_; intro v12 w12 o12 k12)
    obtain ⟨A12, c12, rfl, g12⟩ := o12.good
    have g10' := g10.below k12
    have b12 := below_more b10 k12 (Nat.le_refl _)
    clear o11 o12 k11 k12 gz10 gt10 g10 b10
    have q12 := sameB A10 A12 (zs ++ ts) (zs ++ ts) c10 c12 (l + l') (l + l') true hlen hlen (by omega) (by omega) (by simp) w12 g10' g12
    rw [hlen]
    go_wp2_with fail
    refine q12.mono ?_
    clear q12
    rintro e w13 ⟨rfl, k13⟩
    have b13 := below_more b12 k13 (Nat.le_refl _)
    clear k13 b12
    go_wp2
    go_ret
    exact ⟨rfl, b13⟩

theorem sumSeals_any (S : SumOK) (hA : ∀ w, Alive w) (A A' : Option Addr) (zs ts : List Int) (l l' c c' : Nat) (hll : zs.length = l) (hll' : ts.length = l') (m : l ≤ 9223372036854775807) (m' : l' ≤ 9223372036854775807) (hz : isBytes zs) (ht : isBytes ts) (w : World) (g : Good A c zs w) (g' : Good A' c' ts w) :
    Calls Try.prog 6 #[.slice A l c, .slice A' l' c'] w fun e w' => e = .returned (.bool true) ∧ Below w.heap.size w w' := by
  by_cases h : l ≤ 1000 ∧ l' ≤ 100
  · exact sumSeals_in S A A' zs ts l l' c c' _ rfl hll hll' hz ht h.1 h.2 w g g' (Lib.hid (hA w))
  · exact sumSeals_long A A' l l' c c' m m' (by omega) w (Lib.hid (hA w))
end Go.Proofs.Ytnllacoimffjpaa
