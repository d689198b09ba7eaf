/- Every table of locks is in order: Inv, kept by Ask, Quit, Free. No program. -/
import Derived.Test.YtnfodidfhnofkaaBb
namespace Go.Proofs.Ytnfodidfhnofkaa

theorem RowOK.congr {wi wi' : Int → Option PWish} {k : KeyT} {hs : List (Int × Int)} {ws : List Int} (h : RowOK wi k hs ws) (he : ∀ t ∈ ws, wi' t = wi t) : RowOK wi' k hs ws :=
  ⟨h.nd, h.rg, h.safe, h.wnd, fun t ht => by rw [he t ht]; exact h.mem t ht, h.ris⟩
theorem wantOf_congr {wi wi' : Int → Option PWish} {t : Int} (he : wi' t = wi t) : wantOf wi' t = wantOf wi t := by simp [wantOf, he]
theorem HeadNo.congr {wi wi' : Int → Option PWish} {hs : List (Int × Int)} {ws : List Int} (h : HeadNo wi hs ws) (he : ∀ t ∈ ws, wi' t = wi t) : HeadNo wi' hs ws := fun t r e => by
  rw [wantOf_congr (he t (by rw [e]; exact List.mem_cons_self))]
  exact h t r e
/-- The rows are R; where done says so, the table has them, and the first one that waits may not be granted. -/
structure InvG (st : PS) (R : KeyT → PRow) (done : KeyT → Prop) : Prop where
  ok : ∀ k, RowOK st.wish k (R k).hs (R k).ws
  head : ∀ k, done k → HeadNo st.wish (R k).hs (R k).ws
  rows : ∀ k, done k → st.rows k = rowO (R k).hs (R k).ws
  all : ∀ t w, st.wish t = some w → t ∈ (R w.key).ws ∧ 0 ≤ w.since ∧ w.since ≤ 1099511627776
def Inv (st : PS) : Prop := InvG st st.row fun _ => True
theorem rowO_row {st : PS} {k : KeyT} {hs : List (Int × Int)} {ws : List Int} (h : st.rows k = rowO hs ws) (hn : hs.length = 0 → ws = []) : st.row k = ⟨hs, ws⟩ := by
  unfold PS.row
  rw [h]
  unfold rowO
  split
  · rename_i e
    rw [List.eq_nil_of_length_eq_zero e, hn e]
    rfl
  · rfl
theorem HeadNo.nil {wi : Int → Option PWish} {hs : List (Int × Int)} {ws : List Int} (h : HeadNo wi hs ws) (e : hs.length = 0) : ws = [] := by
  obtain rfl := List.eq_nil_of_length_eq_zero e
  cases ws with
  | nil => rfl
  | cons t r => exact absurd (h t r rfl) (by simp [mayH])
theorem InvG.row {st : PS} {R : KeyT → PRow} {done : KeyT → Prop} (h : InvG st R done) {k : KeyT} (hd : done k) : st.row k = R k := rowO_row (h.rows k hd) (h.head k hd).nil
theorem InvG.inv {st : PS} {R : KeyT → PRow} {done : KeyT → Prop} (h : InvG st R done) (hd : ∀ k, done k) : Inv st := by
  have e : st.row = R := funext fun k => h.row (hd k)
  unfold Inv
  rw [e]
  exact ⟨h.ok, fun k _ => h.head k (hd k), fun k _ => h.rows k (hd k), h.all⟩
theorem Inv.rows_row {st : PS} (h : Inv st) (k : KeyT) : st.rows k = rowO (st.row k).hs (st.row k).ws := h.rows k trivial
theorem Inv.some_row {st : PS} (h : Inv st) {k : KeyT} {r : PRow} (hr : st.rows k = some r) : st.row k = r ∧ r.hs ≠ [] := by
  have e : st.row k = r := by simp [PS.row, hr]
  refine ⟨e, fun hn => ?_⟩
  have := h.rows_row k
  rw [e, hr] at this
  simp [rowO, hn] at this
theorem none_row {st : PS} {k : KeyT} (hr : st.rows k = none) : st.row k = ⟨[], []⟩ := by simp [PS.row, hr]
theorem Inv.isSome {st : PS} (h : Inv st) (k : KeyT) : (st.rows k).isSome = true ↔ (st.row k).hs ≠ [] := by
  cases hr : st.rows k with
  | none => simp [none_row hr]
  | some r => have := h.some_row hr; simp [this.1, this.2]
theorem Inv.waits {st : PS} (h : Inv st) {t : Int} {w : PWish} (hw : st.wish t = some w) : t ∈ (st.row w.key).ws := (h.all t w hw).1
theorem Inv.waits_iff {st : PS} (h : Inv st) {t : Int} {k : KeyT} : t ∈ (st.row k).ws ↔ ∃ w, st.wish t = some w ∧ w.key = k :=
  ⟨fun ht => by obtain ⟨w, h1, h2, _⟩ := (h.ok k).mem t ht; exact ⟨w, h1, h2⟩, fun ⟨w, h1, h2⟩ => h2 ▸ h.waits h1⟩
theorem Inv.new (wait : Int) : Inv (newPS wait) :=
  ⟨fun k => ⟨by simp [newPS, PS.row], by simp [newPS, PS.row], by simp [newPS, PS.row], by simp [newPS, PS.row], by simp [newPS, PS.row], ⟨[], [], rfl, by simp, by simp⟩⟩, fun k _ t r e => by simp [newPS, PS.row] at e, fun k _ => by simp [newPS, PS.row, rowO], fun t w h => by simp [newPS] at h⟩

theorem goOn_inv {st : PS} {R : KeyT → PRow} {done : KeyT → Prop} (h : InvG st R done) (k : KeyT) :
    InvG (goOnS st k (R k)) (upd R k ⟨(goH (wantOf st.wish) (R k).hs (R k).ws).1, (goH (wantOf st.wish) (R k).hs (R k).ws).2⟩) (fun k' => k' = k ∨ done k') := by
  obtain ⟨g1, g2⟩ := goH_ok (h.ok k)
  obtain ⟨G, hG⟩ := goH_suffix (wantOf st.wish) (R k).ws (R k).hs
  have er : (goOnS st k (R k)).rows = upd st.rows k (rowO (goH (wantOf st.wish) (R k).hs (R k).ws).1 (goH (wantOf st.wish) (R k).hs (R k).ws).2) := rfl
  have ew : ∀ t, (goOnS st k (R k)).wish t = if t ∈ (R k).ws ∧ t ∉ (goH (wantOf st.wish) (R k).hs (R k).ws).2 then none else st.wish t := fun _ => rfl
  generalize goOnS st k (R k) = st' at *
  generalize (goH (wantOf st.wish) (R k).hs (R k).ws).1 = hs' at *
  generalize (goH (wantOf st.wish) (R k).hs (R k).ws).2 = ws' at *
  have hsub : ∀ t ∈ ws', t ∈ (R k).ws := fun t ht => by rw [hG]; exact List.mem_append_right _ ht
  have hw1 : ∀ t ∈ ws', st'.wish t = st.wish t := fun t ht => by
    rw [ew, if_neg (fun e => e.2 ht)]
  have hw2 : ∀ k', k' ≠ k → ∀ t ∈ (R k').ws, st'.wish t = st.wish t := fun k' hk t ht => by
    rw [ew, if_neg]
    rintro ⟨e, _⟩
    obtain ⟨w, h1, h2, _⟩ := (h.ok k).mem t e
    obtain ⟨w', h1', h2', _⟩ := (h.ok k').mem t ht
    rw [h1] at h1'
    cases h1'
    exact hk (h2'.symm.trans h2)
  refine ⟨fun k' => ?_, fun k' hd => ?_, fun k' hd => ?_, fun t w hw => ?_⟩
  · by_cases e : k' = k
    · subst e
      rw [upd_same]
      exact g1.congr hw1
    · rw [upd_other e]
      exact (h.ok k').congr (hw2 k' e)
  · by_cases e : k' = k
    · subst e
      rw [upd_same]
      exact g2.congr hw1
    · rw [upd_other e]
      exact (h.head k' (hd.resolve_left e)).congr (hw2 k' e)
  · by_cases e : k' = k
    · subst e
      rw [upd_same, er, upd_same]
    · rw [upd_other e, er, upd_other e]
      exact h.rows k' (hd.resolve_left e)
  · have hw' : st.wish t = some w ∧ ¬ (t ∈ (R k).ws ∧ t ∉ ws') := by
      rw [ew] at hw
      split at hw
      · cases hw
      · rename_i hn
        exact ⟨hw, hn⟩
    obtain ⟨a1, a2⟩ := h.all t w hw'.1
    refine ⟨?_, a2⟩
    by_cases e : w.key = k
    · rw [e, upd_same]
      rw [e] at a1
      exact Classical.byContradiction fun hn => hw'.2 ⟨a1, hn⟩
    · rw [upd_other e]
      exact a1

/-! ### Ask -/
theorem RowOK.leave {wi wi' : Int → Option PWish} {k : KeyT} {hs : List (Int × Int)} {ws : List Int} (h : RowOK wi k hs ws) (tx : Int) (he : ∀ t, t ≠ tx → wi' t = wi t) : RowOK wi' k hs (leaveW ws tx) := by
  obtain ⟨A, B, e, hA, hB⟩ := h.ris
  refine ⟨h.nd, h.rg, h.safe, h.wnd.filter _, fun t ht => ?_, leaveW A tx, leaveW B tx, by rw [e]; simp [leaveW], fun t ht => hA t (List.mem_filter.1 ht).1, fun t ht => hB t (List.mem_filter.1 ht).1⟩
  obtain ⟨h1, h2⟩ := List.mem_filter.1 ht
  rw [he t (by simpa using h2)]
  exact h.mem t h1
theorem mem_leaveW {ws : List Int} {tx t : Int} : t ∈ leaveW ws tx ↔ t ∈ ws ∧ t ≠ tx := by simp [leaveW]
theorem mem_releaseH {hs : List (Int × Int)} {tx : Int} {p : Int × Int} : p ∈ releaseH hs tx ↔ p ∈ hs ∧ p.1 ≠ tx := by simp [releaseH]
theorem howH_release (hs : List (Int × Int)) (tx t : Int) : howH (releaseH hs tx) t = if t = tx then 0 else howH hs t := by
  induction hs with
  | nil => simp [releaseH, howH]
  | cons p r ih =>
    unfold releaseH at ih ⊢
    rw [List.filter_cons]
    by_cases e : p.1 = tx
    · rw [if_neg (by simpa using e), ih]
      by_cases e2 : t = tx
      · rw [if_pos e2, if_pos e2]
      · rw [if_neg e2, if_neg e2]
        unfold howH
        rw [if_neg (fun e3 : p.1 = t => e2 (e3.symm.trans e))]
        cases r <;> rfl
    · rw [if_pos (by simpa using e)]
      unfold howH
      by_cases e3 : p.1 = t
      · rw [if_pos e3, if_pos e3, if_neg (fun e2 : t = tx => e (e3.trans e2))]
      · rw [if_neg e3, if_neg e3]
        exact ih
theorem RowOK.free {wi wi' : Int → Option PWish} {k : KeyT} {hs : List (Int × Int)} {ws : List Int} (h : RowOK wi k hs ws) (tx : Int) (he : ∀ t, t ≠ tx → wi' t = wi t) : RowOK wi' k (releaseH hs tx) (leaveW ws tx) := by
  obtain ⟨A, B, e, hA, hB⟩ := h.ris
  refine ⟨?_, fun p hp => h.rg p (mem_releaseH.1 hp).1, fun p hp h2 => ?_, h.wnd.filter _, fun t ht => ?_, leaveW A tx, leaveW B tx, by rw [e]; simp [leaveW], fun t ht => ?_, fun t ht => ?_⟩
  · exact h.nd.sublist ((List.filter_sublist (p := fun h : Int × Int => h.1 != tx) (l := hs)).map Prod.fst)
  · obtain ⟨h1, h3⟩ := mem_releaseH.1 hp
    have := h.safe p h1 h2
    rw [this]
    simp [releaseH, h3]
  · obtain ⟨h1, h2⟩ := mem_leaveW.1 ht
    obtain ⟨w, a1, a2, a3, a4⟩ := h.mem t h1
    exact ⟨w, by rw [he t h2]; exact a1, a2, by rw [howH_release, if_neg h2]; exact a3, a4⟩
  · obtain ⟨h1, h2⟩ := mem_leaveW.1 ht
    rw [howH_release, if_neg h2]
    exact hA t h1
  · obtain ⟨h1, h2⟩ := mem_leaveW.1 ht
    rw [howH_release, if_neg h2]
    exact hB t h1

theorem quit_inv {st : PS} (h : Inv st) (tx : Int) : Inv (quitS st tx).1 := by
  unfold quitS
  cases hw : st.wish tx with
  | none => exact h
  | some w =>
    have g : InvG { st with wish := upd st.wish tx none } (upd st.row w.key ⟨(st.row w.key).hs, leaveW (st.row w.key).ws tx⟩) (fun k => k ≠ w.key) := by
      have hno : ∀ k, k ≠ w.key → ∀ t ∈ (st.row k).ws, t ≠ tx := fun k hk t ht e => by
        obtain ⟨w', h1, h2⟩ := h.waits_iff.1 ht
        rw [e, hw] at h1
        cases h1
        exact hk h2.symm
      refine ⟨fun k => ?_, fun k hk => ?_, fun k hk => ?_, fun t w' hw' => ?_⟩
      · by_cases e : k = w.key
        · subst e
          rw [upd_same]
          exact (h.ok w.key).leave tx (fun t ht => upd_other ht)
        · rw [upd_other e]
          exact (h.ok k).congr fun t ht => upd_other (hno k e t ht)
      · rw [upd_other hk]
        exact (h.head k trivial).congr fun t ht => upd_other (hno k hk t ht)
      · rw [upd_other hk]
        exact h.rows k trivial
      · have ht : t ≠ tx := fun e => by subst e; simp [upd_same] at hw'
        have hw' : st.wish t = some w' := by simpa [upd_other ht] using hw'
        obtain ⟨a1, a2⟩ := h.all t w' hw'
        refine ⟨?_, a2⟩
        by_cases e : w'.key = w.key
        · rw [e, upd_same]
          exact mem_leaveW.2 ⟨e ▸ a1, ht⟩
        · rw [upd_other e]
          exact a1
    have g2 := goOn_inv g w.key
    rw [upd_same] at g2
    exact g2.inv fun k => Decidable.em (k = w.key)
end Go.Proofs.Ytnfodidfhnofkaa
