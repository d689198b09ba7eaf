/- set.Of: the set of a list of categories, for every list. -/
import Derived.Test.YtcodphddkkjocaaGreatDoorPd
namespace Go.Proofs.YtcodphddkkjocaaGreatDoor
open Go.RowKit
set_option linter.unusedVariables false

/-- What Of answers: the set and true, or 0 and false. -/
def ofN (l : List Int) : Nat × Bool := if l.all isCat then (setOf (l.map Int.toNat), true) else (0, false)
def natsI (l : List Int) : List Nat := l.map Int.toNat
theorem isCat_nat {c : Int} (h : isCat c = true) : ∃ k : Nat, c = k ∧ k < 64 := by
  simp [isCat] at h
  exact ⟨c.toNat, by omega, by omega⟩
theorem all_take {l : List Int} {k : Nat} (hk : k < l.length) (h : (l.take k).all isCat = true) (hc : isCat (l[k]?.getD 0) = true) : (l.take (k + 1)).all isCat = true ∧ setOf (natsI (l.take (k + 1))) = setOf (natsI (l.take k)) ||| 2 ^ (l[k]?.getD 0).toNat := by
  have e : l.take (k + 1) = l.take k ++ [l[k]?.getD 0] := by
    rw [List.take_succ_eq_append_getElem hk]; simp [hk]
  rw [e]
  refine ⟨by rw [List.all_append, h]; simp [hc], ?_⟩
  unfold natsI
  rw [List.map_append]
  exact setOf_snoc _ _
theorem all_bad {l : List Int} {k : Nat} (hk : k < l.length) (hc : isCat (l[k]?.getD 0) = false) : ofN l = (0, false) := by
  unfold ofN
  rw [if_neg]
  intro h
  have := List.all_eq_true.1 h l[k] (by simp)
  simp [hk] at hc
  rw [hc] at this; cases this
theorem setOf_cats_lt {l : List Int} (h : l.all isCat = true) : setOf (natsI l) < 18446744073709551616 := setOf_lt _ (fun c hc => by
  obtain ⟨x, hx, rfl⟩ := List.mem_map.1 hc
  obtain ⟨k, rfl, hk⟩ := isCat_nat (List.all_eq_true.1 h x hx)
  simpa using hk)
theorem of_lt (l : List Int) : (ofN l).1 < 18446744073709551616 := by
  unfold ofN
  split
  · rename_i h; exact setOf_cats_lt h
  · decide

end Go.Proofs.YtcodphddkkjocaaGreatDoor
