/- What holds of every table of locks: Inv, and that Ask, Quit and Free keep it. No program. -/
import Derived.Test.YtnfodidfhnofkaaBa
namespace Go.Proofs.Ytnfodidfhnofkaa

/-! ### how, may, grant -/
theorem howH_zero {hs : List (Int × Int)} {tx : Int} (h : ∀ p ∈ hs, p.1 ≠ tx) : howH hs tx = 0 := by
  induction hs with
  | nil => rfl
  | cons p t ih =>
    unfold howH
    rw [if_neg (h p List.mem_cons_self)]
    exact ih fun q hq => h q (List.mem_cons_of_mem _ hq)
theorem howH_mem {hs : List (Int × Int)} {tx : Int} (h : howH hs tx ≠ 0) : (tx, howH hs tx) ∈ hs := by
  induction hs with
  | nil => exact absurd rfl h
  | cons p t ih =>
    unfold howH at h ⊢
    split
    · rename_i e
      rw [← e]
      exact List.mem_cons_self
    · rename_i e
      rw [if_neg e] at h
      exact List.mem_cons_of_mem _ (ih h)
theorem howH_of_mem {hs : List (Int × Int)} (hn : (hs.map Prod.fst).Nodup) {p : Int × Int} (h : p ∈ hs) : howH hs p.1 = p.2 := by
  induction hs with
  | nil => cases h
  | cons q t ih =>
    rw [List.map_cons, List.nodup_cons] at hn
    unfold howH
    rcases List.mem_cons.1 h with rfl | h
    · rw [if_pos rfl]
    · rw [if_neg (fun e : q.1 = p.1 => hn.1 (by rw [e]; exact List.mem_map_of_mem h))]
      exact ih hn.2 h
theorem mayH_iff {hs : List (Int × Int)} {tx want : Int} : mayH hs tx want = true ↔ ∀ p ∈ hs, p.1 ≠ tx → want ≠ 2 ∧ p.2 ≠ 2 := by
  unfold mayH
  simp only [Bool.not_eq_true', List.any_eq_false, Bool.and_eq_true, Bool.or_eq_true, bne_iff_ne, beq_iff_eq, not_and, not_or, ne_eq]
theorem grant_new {hs : List (Int × Int)} {tx want : Int} (h : ∀ p ∈ hs, p.1 ≠ tx) : grantH hs tx want = hs ++ [(tx, want)] := by
  induction hs with
  | nil => rfl
  | cons p t ih =>
    unfold grantH
    rw [if_neg (h p List.mem_cons_self), ih fun q hq => h q (List.mem_cons_of_mem _ hq)]
    rfl
theorem grant_fst {hs : List (Int × Int)} {tx want : Int} : (grantH hs tx want).map Prod.fst = if tx ∈ hs.map Prod.fst then hs.map Prod.fst else hs.map Prod.fst ++ [tx] := by
  induction hs with
  | nil => simp [grantH]
  | cons p t ih =>
    unfold grantH
    split
    · rename_i e
      simp [e]
    · rename_i e
      rw [List.map_cons, ih, List.map_cons]
      by_cases hm : tx ∈ t.map Prod.fst
      · rw [if_pos hm, if_pos (List.mem_cons_of_mem _ hm)]
      · rw [if_neg hm, if_neg (fun h => by rcases List.mem_cons.1 h with h | h; exact e h.symm; exact hm h)]
        rfl
theorem grant_nodup {hs : List (Int × Int)} {tx want : Int} (h : (hs.map Prod.fst).Nodup) : ((grantH hs tx want).map Prod.fst).Nodup := by
  rw [grant_fst]
  split
  · exact h
  · rename_i hm
    exact List.nodup_append.2 ⟨h, by simp, fun x hx y hy e => by simp at hy; subst hy; exact hm (e ▸ hx)⟩
theorem grant_how_same (hs : List (Int × Int)) (tx want : Int) : howH (grantH hs tx want) tx = want := by
  induction hs with
  | nil => simp [grantH, howH]
  | cons p t ih =>
    unfold grantH
    split
    · rename_i e; simp [howH, e]
    · rename_i e; simp only [howH]; rw [if_neg e]; exact ih
theorem grant_how_other (hs : List (Int × Int)) {tx tx' want : Int} (hne : tx' ≠ tx) : howH (grantH hs tx want) tx' = howH hs tx' := by
  induction hs with
  | nil => simp [grantH, howH, Ne.symm hne]
  | cons p t ih =>
    unfold grantH
    split
    · rename_i e
      subst e
      simp [howH, Ne.symm hne]
    · simp only [howH, ih]
theorem grant_mem {hs : List (Int × Int)} {tx want : Int} {p : Int × Int} (h : p ∈ grantH hs tx want) : p = (tx, want) ∨ p ∈ hs := by
  induction hs with
  | nil => simpa [grantH] using h
  | cons q t ih =>
    unfold grantH at h
    split at h
    · rename_i e
      rcases List.mem_cons.1 h with h | h
      · exact .inl (h.trans (by rw [e]))
      · exact .inr (List.mem_cons_of_mem _ h)
    · rcases List.mem_cons.1 h with h | h
      · exact .inr (h ▸ List.mem_cons_self)
      · exact (ih h).imp id (List.mem_cons_of_mem _)
theorem grant_ne_nil (hs : List (Int × Int)) (tx want : Int) : grantH hs tx want ≠ [] := by
  cases hs with
  | nil => simp [grantH]
  | cons p t => unfold grantH; split <;> simp
theorem grant_len (hs : List (Int × Int)) (tx want : Int) : (grantH hs tx want).length ≤ hs.length + 1 := by
  induction hs with
  | nil => simp [grantH]
  | cons p t ih => unfold grantH; split <;> simp; omega

/-! ### a row in order -/
/-- A row of which nothing is said of whether the first one that waits may be granted. -/
structure RowOK (wi : Int → Option PWish) (k : KeyT) (hs : List (Int × Int)) (ws : List Int) : Prop where
  nd : (hs.map Prod.fst).Nodup
  rg : ∀ p ∈ hs, 1 ≤ p.1 ∧ p.1 ≤ 1048576 ∧ (p.2 = 1 ∨ p.2 = 2)
  safe : ∀ p ∈ hs, p.2 = 2 → hs = [p]
  wnd : ws.Nodup
  mem : ∀ t ∈ ws, ∃ w, wi t = some w ∧ w.key = k ∧ howH hs t < w.want ∧ (w.want = 1 ∨ w.want = 2) ∧ 1 ≤ t ∧ t ≤ 1048576
  ris : ∃ A B, ws = A ++ B ∧ (∀ t ∈ A, howH hs t ≠ 0) ∧ (∀ t ∈ B, howH hs t = 0)
def HeadNo (wi : Int → Option PWish) (hs : List (Int × Int)) (ws : List Int) : Prop := ∀ t r, ws = t :: r → mayH hs t (wantOf wi t) = false
theorem howH_cases {hs : List (Int × Int)} (h : ∀ p ∈ hs, 1 ≤ p.1 ∧ p.1 ≤ 1048576 ∧ (p.2 = 1 ∨ p.2 = 2)) (tx : Int) : howH hs tx = 0 ∨ howH hs tx = 1 ∨ howH hs tx = 2 := by
  by_cases h0 : howH hs tx = 0
  · exact .inl h0
  · exact .inr (h _ (howH_mem h0)).2.2
theorem not_holds {hs : List (Int × Int)} (hn : (hs.map Prod.fst).Nodup) (hr : ∀ p ∈ hs, 1 ≤ p.1 ∧ p.1 ≤ 1048576 ∧ (p.2 = 1 ∨ p.2 = 2)) {tx : Int} (h : howH hs tx = 0) : ∀ p ∈ hs, p.1 ≠ tx := fun p hp e => by
  have := howH_of_mem hn hp
  have := (hr p hp).2.2
  subst e
  omega
/-- One that may be granted is. -/
theorem RowOK.step {wi : Int → Option PWish} {k : KeyT} {hs : List (Int × Int)} {tx : Int} {ws : List Int} (h : RowOK wi k hs (tx :: ws)) (hm : mayH hs tx (wantOf wi tx) = true) : RowOK wi k (grantH hs tx (wantOf wi tx)) ws := by
  obtain ⟨w, hw, hk, hlow, hwant, ht1, ht2⟩ := h.mem tx List.mem_cons_self
  have hwo : wantOf wi tx = w.want := by simp [wantOf, hw]
  rw [hwo] at hm ⊢
  rw [mayH_iff] at hm
  have hnd := List.nodup_cons.1 h.wnd
  have hne : ∀ t ∈ ws, t ≠ tx := fun t ht e => hnd.1 (e ▸ ht)
  refine ⟨grant_nodup h.nd, fun p hp => ?_, fun p hp hp2 => ?_, hnd.2, fun t ht => ?_, ?_⟩
  · rcases grant_mem hp with rfl | hp
    · exact ⟨ht1, ht2, hwant⟩
    · exact h.rg p hp
  · -- exclusive: alone
    have hall : ∀ q ∈ hs, q.1 = tx := by
      rcases grant_mem hp with rfl | hp
      · intro q hq
        by_cases e : q.1 = tx
        · exact e
        · exact absurd hp2 (hm q hq e).1
      · intro q hq
        have := h.safe p hp hp2
        rw [this] at hq
        have hq : q = p := by simpa using hq
        subst hq
        by_cases e : q.1 = tx
        · exact e
        · exact absurd hp2 (hm q (this ▸ List.mem_cons_self) e).2
    have hg : grantH hs tx w.want = [(tx, w.want)] := by
      match hs, hall, h.nd with
      | [], _, _ => rfl
      | [q], hall, _ => simp [grantH, hall q List.mem_cons_self]
      | q :: r :: t, hall, hnd =>
        have e1 := hall q (by simp)
        have e2 := hall r (by simp)
        simp [e1, e2] at hnd
    rw [hg] at hp ⊢
    rw [show p = (tx, w.want) by simpa using hp]
  · obtain ⟨w', h1, h2, h3, h4⟩ := h.mem t (List.mem_cons_of_mem _ ht)
    exact ⟨w', h1, h2, by rw [grant_how_other _ (hne t ht)]; exact h3, h4⟩
  · obtain ⟨A, B, e, hA, hB⟩ := h.ris
    cases A with
    | nil =>
      rw [List.nil_append] at e
      subst e
      exact ⟨[], ws, rfl, (fun t ht => by cases ht), fun t ht => by rw [grant_how_other _ (hne t ht)]; exact hB t (List.mem_cons_of_mem _ ht)⟩
    | cons a A =>
      simp only [List.cons_append, List.cons.injEq] at e
      obtain ⟨rfl, rfl⟩ := e
      exact ⟨A, B, rfl, fun t ht => by rw [grant_how_other _ (hne t (by simp [ht]))]; exact hA t (List.mem_cons_of_mem _ ht), fun t ht => by rw [grant_how_other _ (hne t (by simp [ht]))]; exact hB t ht⟩
theorem goH_ok {wi : Int → Option PWish} {k : KeyT} : ∀ {ws : List Int} {hs : List (Int × Int)}, RowOK wi k hs ws → RowOK wi k (goH (wantOf wi) hs ws).1 (goH (wantOf wi) hs ws).2 ∧ HeadNo wi (goH (wantOf wi) hs ws).1 (goH (wantOf wi) hs ws).2
  | [], hs, h => ⟨by simpa [goH] using h, fun t r e => by simp [goH] at e⟩
  | tx :: ws, hs, h => by
    unfold goH
    split
    · rename_i hm
      exact goH_ok (h.step hm)
    · rename_i hm
      exact ⟨h, fun t r e => by injection e with e1 e2; subst e1; simpa using hm⟩
/-- What goes on leaves a part of the row behind. -/
theorem goH_suffix (want : Int → Int) : ∀ (ws : List Int) (hs : List (Int × Int)), ∃ G, ws = G ++ (goH want hs ws).2
  | [], hs => ⟨[], rfl⟩
  | tx :: ws, hs => by
    unfold goH
    split
    · obtain ⟨G, hG⟩ := goH_suffix want ws (grantH hs tx (want tx))
      exact ⟨tx :: G, by rw [List.cons_append, ← hG]⟩
    · exact ⟨[], rfl⟩
theorem goH_holders (want : Int → Int) : ∀ (ws : List Int) (hs : List (Int × Int)) (t : Int), t ∈ (goH want hs ws).1.map Prod.fst → t ∈ hs.map Prod.fst ∨ t ∈ ws
  | [], hs, t, h => .inl h
  | tx :: ws, hs, t, h => by
    unfold goH at h
    split at h
    · rcases goH_holders want ws _ t h with h | h
      · rw [grant_fst] at h
        split at h
        · exact .inl h
        · rcases List.mem_append.1 h with h | h
          · exact .inl h
          · exact .inr (by simp at h; simp [h])
      · exact .inr (List.mem_cons_of_mem _ h)
    · exact .inl h
theorem goH_keeps (want : Int → Int) : ∀ (ws : List Int) (hs : List (Int × Int)) (t : Int), t ∉ ws → howH (goH want hs ws).1 t = howH hs t
  | [], hs, t, _ => rfl
  | tx :: ws, hs, t, h => by
    unfold goH
    split
    · rw [goH_keeps want ws _ t (fun e => h (List.mem_cons_of_mem _ e)), grant_how_other _ (fun e : t = tx => h (by rw [e]; exact List.mem_cons_self))]
    · rfl
/-- Where no one holds, no one waits behind it. -/
theorem goH_none {want : Int → Int} : ∀ {ws : List Int} {hs : List (Int × Int)}, (goH want hs ws).1 = [] → hs = [] ∧ ws = []
  | [], hs, h => ⟨h, rfl⟩
  | tx :: ws, hs, h => by
    unfold goH at h
    split at h
    · exact absurd (goH_none h).1 (grant_ne_nil _ _ _)
    · rename_i hm
      subst h
      exact absurd (by rfl) hm
theorem goH_len (want : Int → Int) : ∀ (ws : List Int) (hs : List (Int × Int)), (goH want hs ws).1.length + (goH want hs ws).2.length ≤ hs.length + ws.length
  | [], hs => Nat.le_refl _
  | tx :: ws, hs => by
    unfold goH
    split
    · have := goH_len want ws (grantH hs tx (want tx))
      have := grant_len hs tx (want tx)
      simp; omega
    · exact Nat.le_refl _
theorem goH_stays {wi : Int → Option PWish} {hs : List (Int × Int)} {ws : List Int} (h : HeadNo wi hs ws) : goH (wantOf wi) hs ws = (hs, ws) := by
  cases ws with
  | nil => rfl
  | cons t r => unfold goH; rw [h t r rfl]; rfl
theorem goH_want {want want' : Int → Int} : ∀ {ws : List Int} {hs : List (Int × Int)}, (∀ t ∈ ws, want t = want' t) → goH want hs ws = goH want' hs ws
  | [], hs, _ => rfl
  | tx :: ws, hs, h => by
    unfold goH
    rw [h tx List.mem_cons_self, goH_want fun t ht => h t (List.mem_cons_of_mem _ ht)]
theorem grant_keeps_up {hs : List (Int × Int)} {tx want t : Int} (hlow : howH hs tx ≤ want) : howH hs t ≤ howH (grantH hs tx want) t := by
  by_cases e : t = tx
  · subst e; rw [grant_how_same]; exact hlow
  · rw [grant_how_other _ e]; exact Int.le_refl _
theorem goH_up {wi : Int → Option PWish} {k : KeyT} : ∀ {ws : List Int} {hs : List (Int × Int)}, RowOK wi k hs ws → ∀ t, howH hs t ≤ howH (goH (wantOf wi) hs ws).1 t
  | [], hs, _, t => Int.le_refl _
  | tx :: ws, hs, h, t => by
    unfold goH
    split
    · rename_i hm
      obtain ⟨w, hw, _, hlow, _⟩ := h.mem tx List.mem_cons_self
      exact Int.le_trans (grant_keeps_up (by simp [wantOf, hw]; omega)) (goH_up (h.step hm) t)
    · exact Int.le_refl _
end Go.Proofs.Ytnfodidfhnofkaa
