/- The walk of the statement SumParts, over what layer 2's calls answer. -/
import Derived.Test.YtnllacoimffjpaaSb
import Derived.Deep.RegionHeld3
namespace Go.Proofs.Ytnllacoimffjpaa
open Go.RowKit Go.Deep

set_option maxHeartbeats 1000000 in
theorem sumParts_long (A A' : Option Addr) (l l' c c' : Nat) (m : l ≤ 9223372036854775807) (m' : l' ≤ 9223372036854775807) (h : 1000 < l ∨ (l ≤ 1000 ∧ 1000 < l')) (w : World) (hA : Hid (Calls Try.prog 8 #[] w fun e w' => e = .returned (.bool true) ∧ Below w.heap.size w w')) :
    Calls Try.prog 4 #[.slice A l c, .slice A' l' c'] w fun e w' => e = .returned (.bool true) ∧ Below w.heap.size w w' := by
  rcases h with h | ⟨h1, h2⟩
  all_goals
    go_enter Try.func4, Try.ntmps4
    go_wp2_with fail
    refine hA.out.mono ?_
    clear hA
    rintro e w1 ⟨rfl, hb⟩
    go_wp2
    go_ret
    exact ⟨rfl, hb⟩

set_option maxHeartbeats 1000000 in
theorem sumParts_in (S : SumOK) (A A' : Option Addr) (zs ts : List Int) (l l' c c' : Nat) (hll : zs.length = l) (hll' : ts.length = l') (hz : isBytes zs) (ht : isBytes ts) (h1 : l ≤ 1000) (h2 : l' ≤ 1000) (w : World) (g : Good A c zs w) (g' : Good A' c' ts w) (hA : Hid (Calls Try.prog 8 #[] w fun e w' => e = .returned (.bool true) ∧ Below w.heap.size w w')) :
    Calls Try.prog 4 #[.slice A l c, .slice A' l' c'] w fun e w' => e = .returned (.bool true) ∧ Below w.heap.size w w' := by
  go_enter Try.func4, Try.ntmps4
  go_wp2_with fail
  refine hA.out.mono ?_
  clear hA
  rintro e w1 ⟨rfl, b1⟩
  have g1 := g.below b1
  have g1' := g'.below b1
  clear g g'
  go_wp2_with fail
  refine (copyB A zs c l hll (by omega) w1 g1).mono ?_
  rintro e w2 ⟨v, rfl, o2, k2⟩
  go_wp2_with (at_builtin; refine wpList_appendB rfl _ _ rfl w1.heap.size v zs rfl o2 A' ts l' c' rfl hll' (g1'.below k2) (by omega) k2.size w1 k2 ?_; intro v3 w3 o3 k3)
  obtain ⟨A3, c3, rfl, g3⟩ := o3.good
  have gz3 := g1.below k3
  have gt3 := g1'.below k3
  have b3 := below_more b1 k3 (Nat.le_refl _)
  clear o2 o3 k2 g1 g1' k3 b1
  have hzt : isBytes (zs ++ ts) := hz.append ht
  have hlen : (zs ++ ts).length = l + l' := by rw [List.length_append, hll, hll']
  obtain ⟨q, hq⟩ : ∃ q, sumB (zs ++ ts) = q := ⟨_, rfl⟩
  obtain ⟨p, hp⟩ : ∃ p, sumB zs = p := ⟨_, rfl⟩
  have hql : q < 16777216 := by rw [← hq]; exact sumB_lt hzt
  have hpl : p < 16777216 := by rw [← hp]; exact sumB_lt hz
  have hm : crc (low24 (p : Int)) (bytesOf ts) = q := by rw [low24_of p hpl, ← hp, ← sumB_append, hq]
  have hsl : (sealL (zs ++ ts)).length = l + l' + 3 := by rw [sealL_length, hlen]
  have hs0 : sumB (sealL (zs ++ ts)) = 0 := sumB_seal hzt
  have hsb := sealL_bytes hzt
  have i1 : ((q : Int) == (q : Int)) = true := by simp
  have i2 : (0 : Int) ≤ (q : Int) := by omega
  have i3 : (q : Int) < 16777216 := by omega
  have c1 := Lib.hid (fun W => S.sum A3 (zs ++ ts) c3 (l + l') q hlen hzt (by omega) hq W)
  have c2 := Lib.hid (fun W => S.sum A zs c l p hll hz (by omega) hp W)
  have c4 := Lib.hid (fun W => S.more p A' ts c' l' q (by omega) (by omega) hll' ht (by omega) hm W)
  have c5 := Lib.hid (fun W => S.seals A3 (zs ++ ts) _ c3 (l + l') hlen hzt (by omega) rfl W)
  have c6 := Lib.hid (fun A5 c5 W => S.sum A5 (sealL (zs ++ ts)) c5 (l + l' + 3) 0 hsl hsb (by omega) hs0 W)
  clear S hq hp hm hs0 hsb hz ht hzt
  rw [hlen]
  go_wp2_with fail
  refine (c1.out w3 g3).mono ?_
  rintro e w4 ⟨rfl, k4⟩
  have b4 := below_more b3 k4 (Nat.le_refl _)
  have g4 := g3.below k4
  have gz4 := gz3.below k4
  have gt4 := gt3.below k4
  clear g3 gz3 gt3 k4 b3
  go_wp2_with fail
  refine (c2.out w4 gz4).mono ?_
  rintro e w5 ⟨rfl, k5⟩
  have b5 := below_more b4 k5 (Nat.le_refl _)
  have g5 := g4.below k5
  have gt5 := gt4.below k5
  clear g4 gz4 gt4 k5 b4
  go_wp2_with fail
  refine (c4.out w5 gt5).mono ?_
  rintro e w6 ⟨rfl, k6⟩
  have b6 := below_more b5 k6 (Nat.le_refl _)
  have g6 := g5.below k6
  clear g5 gt5 k6 b5
  go_wp2_with fail
  refine (c5.out w6 g6).mono ?_
  rintro e w7 ⟨v7, rfl, o7, k7⟩
  obtain ⟨A7, c7, rfl, g7⟩ := o7.good
  have b7 := below_more b6 k7 (Nat.le_refl _)
  clear o7 k7 b6 g6
  rw [hsl]
  go_wp2_with fail
  refine (c6.out A7 c7 w7 g7).mono ?_
  rintro e w8 ⟨rfl, k8⟩
  have b8 := below_more b7 k8 (Nat.le_refl _)
  clear k8 b7 g7
  go_wp2
  go_ret
  exact ⟨rfl, b8⟩

theorem sumParts_any (S : SumOK) (hA : ∀ w, Calls Try.prog 8 #[] w fun e w' => e = .returned (.bool true) ∧ Below w.heap.size w w') (A A' : Option Addr) (zs ts : List Int) (l l' c c' : Nat) (hll : zs.length = l) (hll' : ts.length = l') (m : l ≤ 9223372036854775807) (m' : l' ≤ 9223372036854775807) (hz : isBytes zs) (ht : isBytes ts) (w : World) (g : Good A c zs w) (g' : Good A' c' ts w) :
    Calls Try.prog 4 #[.slice A l c, .slice A' l' c'] w fun e w' => e = .returned (.bool true) ∧ Below w.heap.size w w' := by
  by_cases h : l ≤ 1000 ∧ l' ≤ 1000
  · exact sumParts_in S A A' zs ts l l' c c' hll hll' hz ht h.1 h.2 w g g' (Lib.hid (hA w))
  · exact sumParts_long A A' l l' c c' m m' (by omega) w (Lib.hid (hA w))
end Go.Proofs.Ytnllacoimffjpaa
