/- A region that draws its order inside a round of a range over a function, walked as outside of one, where nothing defers. Nothing of the program. -/
import Derived.Test.YthmccldkknhejaaDoorRound
namespace Go.Proofs.YthmccldkknhejaaDoor
open Go.RowKit

theorem wpAnyIn_of_wpAny {P : Program} {md : Region.Mode} {l m : Nat} {ops : Array Oper} (hnd : NoDefer ops) {Q : Exit → Act → World → Prop} (hno : ¬ LetsOut Q) :
    ∀ (f : Nat) (listed : Array Bool) (a : Act) (w : World), wpAny P md ops Q f listed a w → wpAnyIn (Fence.wide.inRound l) m P md ops Q f listed a w
  | 0, _, _, _, h => h
  | f + 1, listed, a, w, h => by
    refine ⟨h.1, fun i hi => ?_⟩
    have h2 := h.2 i hi
    unfold wpOp at h2
    unfold wpOpIn
    cases ho : ops[i]? with
    | none => rw [ho] at h2; exact wpAnyIn_of_wpAny hnd hno f _ a w h2
    | some o =>
      rw [ho] at h2
      simp only at h2 ⊢
      split
      · rename_i hw
        rw [if_pos hw] at h2
        rcases h2 with h2 | ⟨_, h3⟩
        · exact wpIn_of_wp (hnd i o ho) (Oper.wp_mono (fun a' w' h' => wpAnyIn_of_wpAny hnd hno f _ a' w' h') h2)
        · exact absurd h3 hno
      · rename_i hw
        rw [if_neg hw] at h2
        exact ⟨fun _ _ => trivial, wpAnyIn_of_wpAny hnd hno f _ _ w h2⟩

theorem region_any_round {P : Program} {l n id : Nat} {Q : Exit → Act → World → Prop} {a : Act} {w : World} {ops : List Oper} (hm : P.follows .mixedOrders = true) (hno : ¬ LetsOut Q) (hnd : NoDefer ops.toArray)
    (h : wpAny P .any ops.toArray Q ops.length (Array.replicate ops.length false) a w.drew) : (Code.region id ops.toArray true).wpIn (Fence.wide.inRound l) n P Q a w := by
  refine wpIn_region_any hm ?_
  have := wpAnyIn_of_wpAny (l := l) (m := n) hnd hno _ _ _ _ h
  simpa using this
end Go.Proofs.YthmccldkknhejaaDoor
