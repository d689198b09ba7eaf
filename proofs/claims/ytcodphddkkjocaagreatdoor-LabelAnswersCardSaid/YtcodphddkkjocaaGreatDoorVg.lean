/- Layer 1 for the stages above it: word.Pack at every two lists; the numbers that the document fixes ('alive'). -/
import Derived.Test.YtcodphddkkjocaaGreatDoorVf
namespace Go.Proofs.YtcodphddkkjocaaGreatDoor
open Go.RowKit Go.Shelf Go.Deep

theorem okW_short (ws : List Int) (h : okW ws = true) : ws.length ≤ 64 := by
  have h2 := (okW_iff ws).1 h
  have : ∀ l : List Int, (∀ x ∈ l, 1 ≤ x ∧ x ≤ 63) → (l.length : Int) ≤ sumI l := by
    intro l
    induction l with
    | nil => intro _; simp [sumI]
    | cons x l ih => intro hl; have := ih (fun y hy => hl y (by simp [hy])); have := hl x (by simp); simp [sumI]; omega
  have := this ws h2.1
  omega

end Go.Proofs.YtcodphddkkjocaaGreatDoor
