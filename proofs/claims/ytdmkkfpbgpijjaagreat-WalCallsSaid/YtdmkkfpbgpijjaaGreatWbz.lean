/- WalCalls: the ways out. -/
import Derived.Test.YtdmkkfpbgpijjaaGreatWby
namespace Go.Proofs.YtdmkkfpbgpijjaaGreat
open Go.RowKit Go.Deep Go.Maps
set_option linter.unusedVariables false
set_option maxRecDepth 100000 in
set_option maxHeartbeats 4000000 in
theorem wcalls_any (HA : AllAns) (n : Int) (A : Option Addr) (cs : List Call5) (l c : Nat) (w : World) (h : Calls5 w A cs) (hl : cs.length = l) (hm : l ≤ maxLen) (hok : ∀ x ∈ cs, okCall5 x) :
    Calls Tryz.prog 3 #[.int .i64 n, .slice A l c] w fun e w' => e = .returned (.bool true) ∧ Below w.heap.size w w' := by
  have out : ∀ a d : Bool, decide (n < 1) = a → decide (60 < n) = d → (a || d) = true →
      Calls Tryz.prog 3 #[.int .i64 n, .slice A l c] w fun e w' => e = .returned (.bool true) ∧ Below w.heap.size w w' := by
    intro a d ha hd hor
    have cA := fun W => alive5 walOK W
    have cG := fun W (hW : Below w.heap.size w W) => great5 A cs l c W (h.below hW) hl hm hok
    cases a <;> cases d <;> first | (exfalso; revert hor; decide) | skip
    all_goals
      clear hor h hl hok
      go_enter Tryz.func3, Tryz.ntmps3
      go_wp2_with fail
      refine (cA _).mono ?_
      rintro e w1 ⟨rfl, b1⟩
      go_wp2_with fail
      refine (cG w1 b1).mono ?_
      rintro e w1' ⟨b, rfl, rfl, _⟩
      clear cA cG
      cases b with
      | true =>
        go_wp2
        go_ret
        exact ⟨rfl, b1⟩
      | false =>
        go_wp2
        go_ret
        exact ⟨rfl, b1⟩
  by_cases h1 : n < 1
  · exact out true _ (by simpa using h1) rfl (by simp)
  by_cases h2 : 60 < n
  · exact out _ true rfl (by simpa using h2) (by simp)
  obtain ⟨k, rfl⟩ := Int.eq_ofNat_of_zero_le (show 0 ≤ n by omega)
  exact wcalls_in HA k A cs l c w (by omega) (by omega) h hl hm hok
end Go.Proofs.YtdmkkfpbgpijjaaGreat
