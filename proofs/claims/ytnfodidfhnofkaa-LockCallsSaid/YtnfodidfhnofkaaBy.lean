/- The table that alive goes through, as mathematics. -/
import Derived.Test.YtnfodidfhnofkaaBx
namespace Go.Proofs.Ytnfodidfhnofkaa
set_option linter.unusedVariables false
set_option linter.unusedSimpArgs false
set_option linter.unusedSectionVars false
set_option linter.unnecessarySimpa false

def K1 : KeyT := ⟨1, 0, 0, 0⟩
def al1 : PS := (askS (newPS 5) 1 K1 false 0).1
def al2 : PS := (askS al1 2 K1 false 0).1
def al3 : PS := (askS al2 1 K1 true 3).1
def al4 : PS := (askS al3 3 K1 false 3).1
theorem al1_eq : askS (newPS 5) 1 K1 false 0 = (al1, 0) := Prod.ext rfl (by decide +kernel)
theorem al2_eq : askS al1 2 K1 false 0 = (al2, 0) := Prod.ext rfl (by decide +kernel)
theorem al3_eq : askS al2 1 K1 true 3 = (al3, 17) := Prod.ext rfl (by decide +kernel)
theorem al4_eq : askS al3 3 K1 false 3 = (al4, 17) := Prod.ext rfl (by decide +kernel)
theorem al1_st : al1 = ⟨5, upd (fun _ => none) K1 (some ⟨[(1, 1)], []⟩), fun _ => none⟩ := by kernel_rfl
theorem al2_st : al2 = ⟨5, upd al1.rows K1 (some ⟨[(1, 1), (2, 1)], []⟩), fun _ => none⟩ := by kernel_rfl
theorem al3_st : al3 = ⟨5, upd al2.rows K1 (some ⟨[(1, 1), (2, 1)], [1]⟩), upd (fun _ => none) 1 (some ⟨K1, 2, 3⟩)⟩ := by kernel_rfl
theorem al4_st : al4 = ⟨5, upd al3.rows K1 (some ⟨[(1, 1), (2, 1)], [1, 3]⟩), upd (upd (fun _ => none) 1 (some ⟨K1, 2, 3⟩)) 3 (some ⟨K1, 1, 3⟩)⟩ := by kernel_rfl
theorem al4_other (k : KeyT) (h : k ≠ K1) : al4.row k = ⟨[], []⟩ := by
  rw [PS.row, al4_st]
  simp only [upd_other h]
  rw [al3_st]
  simp only [upd_other h]
  rw [al2_st]
  simp only [upd_other h]
  rw [al1_st]
  simp only [upd_other h]
  rfl
theorem al4_row : al4.row K1 = ⟨[(1, 1), (2, 1)], [1, 3]⟩ := by rw [PS.row, al4_st]; simp only [upd_same]; rfl
theorem al4_late (l : List Int) (h : LateL al4 8 l) : l = [1, 3] := by
  refine sortedN_one h.up (by simp [SortedN]) fun t => ?_
  rw [h.mem t]
  unfold lateB
  rw [al4_st]
  by_cases h3 : t = 3
  · subst h3; simp [upd_same]
  · by_cases h1 : t = 1
    · subst h1; simp [upd]
    · simp [upd, h1, h3]
theorem al4_wish : al4.wish 1 = some ⟨K1, 2, 3⟩ := by rw [al4_st]; simp [upd]
theorem al5_row {st : PS} (h : FreeSays al4 st 2) : st.row K1 = ⟨[(1, 2)], [3]⟩ := by
  rw [h.row K1]
  unfold freeR goF
  rw [al4_row]
  kernel_rfl
theorem al5_other {st : PS} (h : FreeSays al4 st 2) (k : KeyT) (hk : k ≠ K1) : st.row k = ⟨[], []⟩ := by
  rw [h.row k]
  unfold freeR goF
  rw [al4_other k hk]
  rfl
theorem al5_wish {st : PS} (h : FreeSays al4 st 2) : ∃ w, st.wish 3 = some w ∧ w.key = K1 := h.inv.waits_iff.1 (by rw [al5_row h]; exact List.mem_cons_self)
theorem al6_eq {st : PS} (h : FreeSays al4 st 2) : ∃ st', quitS st 3 = (st', true) ∧ st'.row K1 = ⟨[(1, 2)], []⟩ ∧ (∀ k, k ≠ K1 → st'.row k = ⟨[], []⟩) ∧ (∀ k, (st'.rows k).isSome = true → st'.row k ≠ ⟨[], []⟩) := by
  obtain ⟨w, hw, hk⟩ := al5_wish h
  have hI := quit_inv h.inv 3
  unfold quitS at hI ⊢
  rw [hw] at hI ⊢
  simp only [hk, al5_row h] at hI ⊢
  have e : leaveW [3] 3 = [] := by decide +kernel
  rw [e] at hI ⊢
  refine ⟨_, rfl, ?_, fun k hk' => ?_, fun k hs => ?_⟩
  · unfold PS.row goOnS
    simp only [upd_same]
    rfl
  · rw [← al5_other h k hk']
    unfold PS.row goOnS
    simp only [upd_other hk']
  · intro e0
    have := (hI.isSome k).1 hs
    rw [e0] at this
    exact this rfl
theorem al_keys {st : PS} {q : PRow → Bool} {l : List KeyT} (h1 : st.row K1 = ⟨[(1, 2)], []⟩) (h2 : ∀ k, k ≠ K1 → st.row k = ⟨[], []⟩) (h3 : ∀ k, (st.rows k).isSome = true → st.row k ≠ ⟨[], []⟩) (hq : q ⟨[(1, 2)], []⟩ = true) (h : KeysL st q l) : l = [K1] := by
  refine sortedK_one h.up (by simp [SortedK]) fun k => ?_
  rw [h.mem k]
  constructor
  · rintro ⟨a, _⟩
    by_cases e : k = K1
    · simp [e]
    · exact absurd (h2 k e) (h3 k a)
  · intro hk
    simp at hk
    subst hk
    refine ⟨?_, by rw [h1]; exact hq⟩
    cases hr : st.rows K1 with
    | some r => rfl
    | none => rw [none_row hr] at h1; cases h1
theorem al_txs {st : PS} {l : List Int} (h1 : st.row K1 = ⟨[(1, 2)], []⟩) (h2 : ∀ k, k ≠ K1 → st.row k = ⟨[], []⟩) (h : TxsL st l) : l = [1] := by
  refine sortedN_one h.up (by simp [SortedN]) fun t => ?_
  rw [h.mem t]
  constructor
  · rintro ⟨k, hk⟩
    by_cases e : k = K1
    · subst e; rw [h1] at hk; rcases hk with hk | hk <;> simpa using hk
    · rw [h2 k e] at hk; rcases hk with hk | hk <;> simp at hk
  · intro ht
    exact ⟨K1, .inl (by rw [h1]; simpa using ht)⟩
end Go.Proofs.Ytnfodidfhnofkaa
