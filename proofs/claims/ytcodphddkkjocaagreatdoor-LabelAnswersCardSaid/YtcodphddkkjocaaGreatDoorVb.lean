/- Layer 1 for the stages above it: are widths right? -/
import Derived.Test.YtcodphddkkjocaaGreatDoorVa
import Derived.Deep.QuietTactic
import Derived.BigQuiet
import Derived.Lib.Hide
namespace Go.Proofs.YtcodphddkkjocaaGreatDoor
open Go.RowKit

/-- Right widths. -/
def sumI : List Int → Int
  | [] => 0
  | x :: xs => x + sumI xs
theorem sumI_append (a b : List Int) : sumI (a ++ b) = sumI a + sumI b := by
  induction a with
  | nil => simp [sumI]
  | cons x a ih => simp [sumI, ih]; omega
def okW (ws : List Int) : Bool := ws.all (fun x => decide (1 ≤ x) && decide (x ≤ 63)) && decide (sumI ws ≤ 64)
theorem sumI_pos (ws : List Int) (h : ∀ x ∈ ws, 1 ≤ x ∧ x ≤ 63) : 0 ≤ sumI ws := by
  induction ws with
  | nil => simp [sumI]
  | cons x a ih => have := ih (fun y hy => h y (by simp [hy])); have := h x (by simp); simp [sumI]; omega
theorem okW_iff (ws : List Int) : okW ws = true ↔ (∀ x ∈ ws, 1 ≤ x ∧ x ≤ 63) ∧ sumI ws ≤ 64 := by
  simp [okW]
theorem okW_bad (ws : List Int) (x : Int) (hx : x ∈ ws) (h : x < 1 ∨ 63 < x) : okW ws = false := by
  rw [Bool.eq_false_iff]; intro e
  have := ((okW_iff ws).1 e).1 x hx
  omega
theorem okW_over (ws : List Int) (k : Nat) (h : 64 < sumI (ws.take k)) : okW ws = false := by
  rw [Bool.eq_false_iff]; intro e
  obtain ⟨h1, h2⟩ := (okW_iff ws).1 e
  have e2 := sumI_append (ws.take k) (ws.drop k)
  rw [List.take_append_drop] at e2
  have := sumI_pos (ws.drop k) (fun x hx => h1 x (List.mem_of_mem_drop hx))
  omega
theorem sum_take (ws : List Int) (k : Nat) (h : k < ws.length) : sumI (ws.take (k + 1)) = sumI (ws.take k) + ws[k]?.getD 0 := by
  rw [List.take_succ_eq_append_getElem h, sumI_append]
  simp [sumI, h]

def RW (ws : List Int) (k : Nat) : Prop := (∀ x ∈ ws.take k, 1 ≤ x ∧ x ≤ 63) ∧ 0 ≤ sumI (ws.take k) ∧ sumI (ws.take k) ≤ 64

theorem rw_step (ws : List Int) (k : Nat) (x : Int) (hlt : k < ws.length) (hx : ws[k]?.getD 0 = x) (h : RW ws k) (h1 : 1 ≤ x ∧ x ≤ 63) (h2 : 0 ≤ sumI (ws.take (k + 1))) (h3 : sumI (ws.take (k + 1)) ≤ 64) : RW ws (k + 1) := by
  refine ⟨?_, h2, h3⟩
  rw [List.take_succ_eq_append_getElem hlt]
  intro y hy
  rcases List.mem_append.1 hy with hy | hy
  · exact h.1 y hy
  · simp [hlt] at hx hy; subst hy; subst hx; exact h1
theorem rw_end (ws : List Int) (h : RW ws ws.length) : okW ws = true := by
  have h1 := h.1; have h3 := h.2.2
  rw [List.take_length] at h1 h3
  exact (okW_iff ws).2 ⟨h1, h3⟩

end Go.Proofs.YtcodphddkkjocaaGreatDoor
