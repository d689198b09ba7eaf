/- SetTexts' walk. -/
import Derived.Test.YthmccldkknhejaaDoorQg
namespace Go.Proofs.YthmccldkknhejaaDoor
open Go.RowKit Go.Deep
set_option linter.unusedVariables false

theorem str_of (s : ByteArray) : ∃ t : List UInt8, strB t = s ∧ t.length = s.size := ⟨s.data.toList, rfl, rfl⟩
set_option maxRecDepth 100000 in
set_option maxHeartbeats 1000000 in
theorem setTexts_walk (s : ByteArray) (w : World) (hG : Gnd w) : Calls Tryd.prog 7 #[.string s] w fun e w' => e = .returned (.bool true) ∧ Below w.heap.size w w' := by
  obtain ⟨t, rfl, hlen⟩ := str_of s
  have hA := alive_any w hG
  by_cases hbig : 400 < t.length
  · have hsz : ¬ ((strB t).size ≤ 400) := by rw [strB_size]; omega
    have hd : (400 : Int) < ((strB t).size : Int) := by rw [strB_size]; omega
    generalize strB t = ts at *
    clear hlen hbig
    go_enter Tryd.func7, Tryd.ntmps7
    go_wp2_with fail
    refine hA.mono ?_
    rintro e w1 ⟨rfl, hb⟩
    go_wp2_with fail
    go_ret
    exact ⟨rfl, hb⟩
  · obtain ⟨u, o, hu⟩ : ∃ u o, readN t = (u, o) := ⟨_, _, rfl⟩
    have hul : u < 18446744073709551616 := by have := read_lt t; rw [hu] at this; exact this
    have cR := fun W hW => read_any t u o (by omega) hu W hW
    have cS := fun W hW => show_any u hul W hW
    have hd : ¬ ((400 : Int) < ((strB t).size : Int)) := by rw [strB_size]; omega
    cases o with
    | false =>
      have hu0 : u = 0 := read_no hu
      subst hu0
      generalize strB t = ts at *
      clear hlen hbig hu cS
      go_enter Tryd.func7, Tryd.ntmps7
      go_wp2_with fail
      refine hA.mono ?_
      rintro e w1 ⟨rfl, hb⟩
      go_wp2_with fail
      refine (cR _ (hG.below hb)).mono ?_
      rintro e w2 ⟨rfl, hb2⟩
      go_wp2_with fail
      go_ret
      exact ⟨rfl, below_more hb hb2 (Nat.le_refl _)⟩
    | true =>
      have hy := read_yes hu
      rw [hy] at cS
      generalize strB t = ts at *
      clear hlen hbig hu hy
      go_enter Tryd.func7, Tryd.ntmps7
      go_wp2_with fail
      refine hA.mono ?_
      rintro e w1 ⟨rfl, hb⟩
      go_wp2_with fail
      refine (cR _ (hG.below hb)).mono ?_
      rintro e w2 ⟨rfl, hb2⟩
      have hb3 := below_more hb hb2 (Nat.le_refl _)
      go_wp2_with fail
      refine (cS _ (hG.below hb3)).mono ?_
      rintro e w3 ⟨rfl, hb4⟩
      go_wp2_with fail
      go_ret
      exact ⟨rfl, below_more hb3 hb4 (Nat.le_refl _)⟩
end Go.Proofs.YthmccldkknhejaaDoor
