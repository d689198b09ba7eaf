/- The walks of the statements WordCuts, WordZigs, WordTurns, WordCounts: each returns true, for every input. -/
import Derived.Test.YtafdaeenjjokiaaDoorWh
namespace Go.Proofs.YtafdaeenjjokiaaDoor
open Go.RowKit

/-- A call that answers v and leaves memory alone. -/
def Gives (f : Nat) (args : Array Value) (v : Value) : Prop := ∀ W : World, Calls Tryd.prog f args W fun e w' => e = .returned v ∧ W = w'

theorem cut_gives (n k : Int) (h : 1 ≤ k) (h2 : k ≤ 64) (c : Int) (e : cutI n k.toNat = c) : Gives 14 #[.int .i64 n, .int .i64 k] (.int .i64 c) := fun W => by
  have := cut_yes n k h h2 W; rwa [e] at this
theorem fits_gives (n k : Int) (h : 1 ≤ k) (h2 : k ≤ 64) (b : Bool) (e : (cutI n k.toNat == n) = b) : Gives 12 #[.int .i64 n, .int .i64 k] (.bool b) := fun W => by
  have := fits_yes n k h h2 W; rwa [e] at this

set_option maxHeartbeats 1000000 in
theorem wordCuts_out (n k f : Int) (h : k < 1 ∨ 64 < k) (w : World) (hT : Tab w) :
    Calls Tryd.prog 5 #[.int .i64 n, .int .i64 k, .int .i64 f] w fun e w' => e = .returned (.bool true) ∧ Below w.heap.size w w' := by
  have hA := Lib.hid (alive_any w hT)
  have hc : Gives 14 #[.int .i64 n, .int .i64 k] (.int .i64 0) := fun W => cut_no n k h W
  have hf : Gives 12 #[.int .i64 n, .int .i64 k] (.bool false) := fun W => fits_no n k h W
  clear hT
  have key : ∀ w : World, Hid (Calls Tryd.prog 11 #[] w fun e w' => e = .returned (.bool true) ∧ Below w.heap.size w w') → (k < 1 ∨ (1 ≤ k ∧ 64 < k)) →
      Calls Tryd.prog 5 #[.int .i64 n, .int .i64 k, .int .i64 f] w fun e w' => e = .returned (.bool true) ∧ Below w.heap.size w w' := by
    intro w hA hk
    rcases hk with hk | ⟨hk, hk2⟩
    all_goals
      go_enter Tryd.func5, Tryd.ntmps5
      go_wp2_with fail
      refine hA.out.mono ?_
      clear hA
      rintro e w1 ⟨rfl, hb⟩
      go_wp2_with fail
      refine (hc w1).mono ?_
      rintro e w' ⟨rfl, rfl⟩
      go_wp2_with fail
      refine (hf w1).mono ?_
      rintro e w' ⟨rfl, rfl⟩
      go_wp2
      go_ret
      exact ⟨rfl, hb⟩
  exact key w hA (by omega)

set_option maxHeartbeats 1000000 in
theorem wordCuts_in (n k f : Int) (h : 1 ≤ k) (h2 : k ≤ 64) (w : World) (hT : Tab w) :
    Calls Tryd.prog 5 #[.int .i64 n, .int .i64 k, .int .i64 f] w fun e w' => e = .returned (.bool true) ∧ Below w.heap.size w w' := by
  have hA := Lib.hid (alive_any w hT)
  have e1 : cutI (cutI n k.toNat) k.toNat = cutI n k.toNat := cut_fewer n k.toNat k.toNat (Nat.le_refl _)
  have c1 := cut_gives n k h h2 _ rfl
  have c2 := fits_gives (cutI n k.toNat) k h h2 true (by rw [e1]; simp)
  have c3 := cut_gives (cutI n k.toNat) k h h2 _ e1
  have c4 := fits_gives n k h h2 _ rfl
  have c5 : 1 ≤ f → f ≤ k → Gives 14 #[.int .i64 (cutI n k.toNat), .int .i64 f] (.int .i64 (cutI n f.toNat)) := fun h3 h4 => cut_gives _ f h3 (by omega) _ (cut_fewer n k.toNat f.toNat (by omega))
  have c6 : 1 ≤ f → f ≤ k → Gives 14 #[.int .i64 n, .int .i64 f] (.int .i64 (cutI n f.toNat)) := fun h3 h4 => cut_gives n f h3 (by omega) _ rfl
  clear e1 hT
  generalize cutI n k.toNat = c at *
  generalize cutI n f.toNat = d at *
  have hcc : (c != c) = false := by simp
  have hbb : ((c == n) != (c == n)) = false := by simp
  have key : f < 1 ∨ (1 ≤ f ∧ k < f) ∨ (1 ≤ f ∧ f ≤ k) := by omega
  rcases key with hf | ⟨hf, hf2⟩ | ⟨hf, hf2⟩
  · clear c5 c6
    go_enter Tryd.func5, Tryd.ntmps5
    go_wp2_with fail
    refine hA.out.mono ?_
    clear hA
    rintro e w1 ⟨rfl, hb⟩
    go_wp2_with fail
    refine (c1 w1).mono ?_
    rintro e w' ⟨rfl, rfl⟩
    go_wp2_with fail
    refine (c2 w1).mono ?_
    rintro e w' ⟨rfl, rfl⟩
    go_wp2_with fail
    refine (c3 w1).mono ?_
    rintro e w' ⟨rfl, rfl⟩
    go_wp2_with fail
    refine (c4 w1).mono ?_
    rintro e w' ⟨rfl, rfl⟩
    go_wp2_with fail
    go_ret
    exact ⟨rfl, hb⟩
  · clear c5 c6
    go_enter Tryd.func5, Tryd.ntmps5
    go_wp2_with fail
    refine hA.out.mono ?_
    clear hA
    rintro e w1 ⟨rfl, hb⟩
    go_wp2_with fail
    refine (c1 w1).mono ?_
    rintro e w' ⟨rfl, rfl⟩
    go_wp2_with fail
    refine (c2 w1).mono ?_
    rintro e w' ⟨rfl, rfl⟩
    go_wp2_with fail
    refine (c3 w1).mono ?_
    rintro e w' ⟨rfl, rfl⟩
    go_wp2_with fail
    refine (c4 w1).mono ?_
    rintro e w' ⟨rfl, rfl⟩
    go_wp2_with fail
    go_ret
    exact ⟨rfl, hb⟩
  · have d5 := c5 hf hf2
    have d6 := c6 hf hf2
    clear c5 c6
    go_enter Tryd.func5, Tryd.ntmps5
    go_wp2_with fail
    refine hA.out.mono ?_
    clear hA
    rintro e w1 ⟨rfl, hb⟩
    go_wp2_with fail
    refine (c1 w1).mono ?_
    rintro e w' ⟨rfl, rfl⟩
    go_wp2_with fail
    refine (c2 w1).mono ?_
    rintro e w' ⟨rfl, rfl⟩
    go_wp2_with fail
    refine (c3 w1).mono ?_
    rintro e w' ⟨rfl, rfl⟩
    go_wp2_with fail
    refine (c4 w1).mono ?_
    rintro e w' ⟨rfl, rfl⟩
    go_wp2_with fail
    refine (d5 w1).mono ?_
    rintro e w' ⟨rfl, rfl⟩
    go_wp2_with fail
    refine (d6 w1).mono ?_
    rintro e w' ⟨rfl, rfl⟩
    go_wp2
    go_ret
    exact ⟨rfl, hb⟩

theorem wordCuts_any (n k f : Int) (w : World) (hT : Tab w) :
    Calls Tryd.prog 5 #[.int .i64 n, .int .i64 k, .int .i64 f] w fun e w' => e = .returned (.bool true) ∧ Below w.heap.size w w' := by
  by_cases h : 1 ≤ k ∧ k ≤ 64
  · exact wordCuts_in n k f h.1 h.2 w hT
  · exact wordCuts_out n k f (by omega) w hT
end Go.Proofs.YtafdaeenjjokiaaDoor
