/- LockSafe, as mathematics. -/
import Derived.Test.YtnfodidfhnofkaaBd
namespace Go.Proofs.Ytnfodidfhnofkaa

theorem filter_one {l : List Int} (hn : l.Nodup) {t : Int} (ht : t ∈ l) {p : Int → Bool} (hp : ∀ x, p x = true ↔ x = t) : l.filter p = [t] := by
  induction l with
  | nil => cases ht
  | cons x l ih =>
    have hn' := List.nodup_cons.1 hn
    by_cases e : x = t
    · subst e
      rw [List.filter_cons_of_pos ((hp x).2 rfl)]
      have : l.filter p = [] := List.filter_eq_nil_iff.2 fun y hy hpy => hn'.1 ((hp y).1 hpy ▸ hy)
      rw [this]
    · rw [List.filter_cons_of_neg (fun h => e ((hp x).1 h))]
      rcases List.mem_cons.1 ht with h | h
      · exact absurd h.symm e
      · exact ih hn'.2 h
/-- How many hold a key; how many hold it alone. -/
def someN (hs : List (Int × Int)) (l : List Int) : Nat := (l.filter fun t => decide (0 < howH hs t)).length
def aloneN (hs : List (Int × Int)) (l : List Int) : Nat := (l.filter fun t => howH hs t == 2).length
theorem safe_count {wi : Int → Option PWish} {k : KeyT} {hs : List (Int × Int)} {ws : List Int} (h : RowOK wi k hs ws) (hne : hs ≠ []) {l : List Int} (hn : l.Nodup) (hl : ∀ p ∈ hs, p.1 ∈ l) :
    someN hs l ≠ 0 ∧ aloneN hs l ≤ 1 ∧ (aloneN hs l = 1 → someN hs l ≤ 1) := by
  by_cases h2 : ∃ p ∈ hs, p.2 = 2
  · obtain ⟨p, hp, h2⟩ := h2
    have e := h.safe p hp h2
    have hw : ∀ t, howH hs t = if t = p.1 then 2 else 0 := fun t => by
      rw [e]
      by_cases ht : t = p.1
      · subst ht; simp [howH, h2]
      · have : ¬ p.1 = t := fun e => ht e.symm
        simp [howH, ht, this]
    have a1 : l.filter (fun t => decide (0 < howH hs t)) = [p.1] := filter_one hn (hl p hp) fun x => by rw [hw x]; by_cases e : x = p.1 <;> simp [e]
    have a2 : l.filter (fun t => howH hs t == 2) = [p.1] := filter_one hn (hl p hp) fun x => by rw [hw x]; by_cases e : x = p.1 <;> simp [e]
    unfold someN aloneN
    rw [a1, a2]
    simp
  · have hno : aloneN hs l = 0 := by
      unfold aloneN
      rw [List.length_eq_zero_iff, List.filter_eq_nil_iff]
      intro t _ ht
      have h2' : howH hs t = 2 := by simpa using ht
      exact h2 ⟨_, howH_mem (by rw [h2']; decide), h2'⟩
    refine ⟨?_, by omega, by omega⟩
    cases hs with
    | nil => exact absurd rfl hne
    | cons p hs =>
      have hp : p ∈ p :: hs := List.mem_cons_self
      have hpos : 0 < howH (p :: hs) p.1 := by
        have := howH_of_mem h.nd hp
        have := (h.rg p hp).2.2
        omega
      unfold someN
      intro h0
      rw [List.length_eq_zero_iff, List.filter_eq_nil_iff] at h0
      exact h0 p.1 (hl p hp) (by simpa using hpos)
end Go.Proofs.Ytnfodidfhnofkaa
