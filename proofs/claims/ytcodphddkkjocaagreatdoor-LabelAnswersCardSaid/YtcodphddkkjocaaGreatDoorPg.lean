/- set.List and the pool's least ones: loops over set.each. -/
import Derived.Test.YtcodphddkkjocaaGreatDoorPe
import Derived.Test.YtcodphddkkjocaaGreatDoorPf
namespace Go.Proofs.YtcodphddkkjocaaGreatDoor
open Go.RowKit Go.Shelf Go.Deep

attribute [local go_sem] Oper.semAt_some
set_option linter.unusedVariables false

set_option maxRecDepth 100000 in
theorem infoInt : (Tryz.prog.info? 3).map (fun i => (i.zero, i.size, i.bytes)) = some (some (.int .i64 0), 1, 8) := by kernel_rfl
/-- New numbers of one's own. -/
def natV (c : Nat) : Value := .int .i64 (c : Int)
def OwnsI (B : Nat) (w : World) (v : Value) (zs : List Nat) : Prop := w.ownsRow B 3 1 v zs.length (zs.map natV)
def GivesI (zs : List Nat) (w : World) (e : Ending) (w' : World) : Prop := ∃ v, e = .returned v ∧ OwnsI w.heap.size w' v zs ∧ Below w.heap.size w w'

/-- A set's k least categories. -/
def leastN (s k : Nat) : Nat := setOf ((cats s).take k)
theorem least_lt (s k : Nat) : leastN s k < 18446744073709551616 := setOf_lt _ (fun c hc => cats_lt (List.mem_of_mem_take hc))
theorem pc_pre (s k : Nat) (hk : k ≤ (cats s).length) : pc (setOf ((cats s).take k)) = k := by
  have hr : ((cats s).take k).Pairwise (· < ·) := (cats_rising s).sublist (List.take_sublist _ _)
  have hl : ∀ i ∈ (cats s).take k, i < 64 := fun i hi => cats_lt (List.mem_of_mem_take hi)
  rw [pc_cats (setOf_lt _ hl), cats_setOf hr hl, List.length_take]
  omega
/-- No proper part of the front has k bits. -/
def NoK (k : Nat) (ps : List Nat) : Prop := ∀ j, j < ps.length → pc (setOf (ps.take j)) ≠ k
theorem noK_snoc {k : Nat} {ps : List Nat} (c : Nat) (h : NoK k ps) (hp : pc (setOf ps) ≠ k) : NoK k (ps ++ [c]) := by
  intro j hj
  rw [List.length_append, List.length_singleton] at hj
  by_cases he : j = ps.length
  · subst he; rw [List.take_left]; exact hp
  · rw [List.take_append_of_le_length (by omega)]
    exact h j (by omega)
theorem noK_all {s k : Nat} (hs : s < 18446744073709551616) (hk : k ≤ (cats s).length) (h : NoK k (cats s)) : setOf (cats s) = leastN s k := by
  have : k = (cats s).length := by
    refine Nat.le_antisymm hk (Nat.le_of_not_lt fun hlt => ?_)
    exact h k hlt (pc_pre s k hk)
  unfold leastN
  rw [this, List.take_length]
theorem noK_stop {s k m : Nat} (hk : k ≤ (cats s).length) {ps : List Nat} {c : Nat} (hp : ps ++ [c] = preN s m) (h : pc (setOf ps) = k) : setOf ps = leastN s k := by
  have e : ps = (cats s).take ps.length := by
    have h1 : (ps ++ [c]).take ps.length = ps := List.take_left
    rw [hp] at h1
    unfold preN at h1
    rw [List.take_take] at h1
    have h2 := congrArg List.length hp
    unfold preN at h2
    rw [List.length_append, List.length_singleton, List.length_take] at h2
    rw [show min ps.length m = ps.length by omega] at h1
    exact h1.symm
  have hle : ps.length ≤ (cats s).length := by
    have := congrArg List.length e
    rw [List.length_take] at this; omega
  have h3 := pc_pre s ps.length hle
  rw [← e, h] at h3
  unfold leastN
  rw [h3, ← e]

end Go.Proofs.YtcodphddkkjocaaGreatDoor
