/- Ask and Free keep a table in order; what Free comes to, key by key. No program. -/
import Derived.Test.YtnfodidfhnofkaaBc
namespace Go.Proofs.Ytnfodidfhnofkaa

theorem howH_pos {hs : List (Int × Int)} (h : ∀ p ∈ hs, 1 ≤ p.1 ∧ p.1 ≤ 1048576 ∧ (p.2 = 1 ∨ p.2 = 2)) {tx : Int} (h0 : howH hs tx ≠ 0) : 1 ≤ howH hs tx := by
  rcases howH_cases h tx with e | e | e <;> omega
theorem grant_rowOK {wi : Int → Option PWish} {k : KeyT} {hs : List (Int × Int)} {ws : List Int} (h : RowOK wi k hs ws) {tx want : Int} (hw : want = 1 ∨ want = 2) (ht : 1 ≤ tx ∧ tx ≤ 1048576) (hlow : howH hs tx < want) (hm : mayH hs tx want = true) (hno : tx ∉ ws) (hr : howH hs tx ≠ 0 ∨ ws = []) :
    RowOK wi k (grantH hs tx want) ws := by
  rw [mayH_iff] at hm
  have hne : ∀ t ∈ ws, t ≠ tx := fun t ht e => hno (e ▸ ht)
  refine ⟨grant_nodup h.nd, fun p hp => ?_, fun p hp hp2 => ?_, h.wnd, fun t ht => ?_, ?_⟩
  · rcases grant_mem hp with rfl | hp
    · exact ⟨ht.1, ht.2, hw⟩
    · exact h.rg p hp
  · have hall : ∀ q ∈ hs, q.1 = tx := by
      rcases grant_mem hp with rfl | hp
      · intro q hq
        by_cases e : q.1 = tx
        · exact e
        · exact absurd hp2 (hm q hq e).1
      · intro q hq
        have := h.safe p hp hp2
        rw [this] at hq
        have hq : q = p := by simpa using hq
        subst hq
        by_cases e : q.1 = tx
        · exact e
        · exact absurd hp2 (hm q (this ▸ List.mem_cons_self) e).2
    have hg : grantH hs tx want = [(tx, want)] := by
      match hs, hall, h.nd with
      | [], _, _ => rfl
      | [q], hall, _ => simp [grantH, hall q List.mem_cons_self]
      | q :: r :: t, hall, hnd =>
        have e1 := hall q (by simp)
        have e2 := hall r (by simp)
        simp [e1, e2] at hnd
    rw [hg] at hp ⊢
    rw [show p = (tx, want) by simpa using hp]
  · obtain ⟨w', h1, h2, h3, h4⟩ := h.mem t ht
    exact ⟨w', h1, h2, by rw [grant_how_other _ (hne t ht)]; exact h3, h4⟩
  · obtain ⟨A, B, e, hA, hB⟩ := h.ris
    exact ⟨A, B, e, fun t ht => by rw [grant_how_other _ (hne t (by rw [e]; exact List.mem_append_left _ ht))]; exact hA t ht, fun t ht => by rw [grant_how_other _ (hne t (by rw [e]; exact List.mem_append_right _ ht))]; exact hB t ht⟩
theorem placeOf_parts {α : Type} {p : α → Bool} : ∀ {A B : List α}, (∀ t ∈ A, p t = false) → (∀ t ∈ B, p t = true) → placeOf p (A ++ B) = A.length
  | [], [], _, _ => rfl
  | [], b :: B, _, h => by simp [placeOf, h b List.mem_cons_self]
  | a :: A, B, h, h' => by
    rw [List.cons_append]
    simp [placeOf, h a List.mem_cons_self, placeOf_parts (fun t ht => h t (List.mem_cons_of_mem _ ht)) h']
/-- Who waits from then on, in a row in order. -/
theorem queueW_parts {hs : List (Int × Int)} {A B : List Int} {tx : Int} (hA : ∀ t ∈ A, howH hs t ≠ 0) (hB : ∀ t ∈ B, howH hs t = 0) :
    queueW hs (A ++ B) tx = if howH hs tx = 0 then A ++ B ++ [tx] else A ++ tx :: B := by
  unfold queueW queueAt
  split
  · rw [List.take_length, List.drop_length]
  · rw [placeOf_parts (fun t ht => by simpa using hA t ht) (fun t ht => by simpa using hB t ht)]
    simp
theorem mem_queueW {hs : List (Int × Int)} {ws : List Int} {tx t : Int} : t ∈ queueW hs ws tx ↔ t = tx ∨ t ∈ ws := by
  unfold queueW
  conv => rhs; rw [← List.take_append_drop (queueAt hs ws tx) ws]
  simp only [List.mem_append, List.mem_cons]
  constructor
  · rintro (h | h | h)
    · exact .inr (.inl h)
    · exact .inl h
    · exact .inr (.inr h)
  · rintro (h | h | h)
    · exact .inr (.inl h)
    · exact .inl h
    · exact .inr (.inr h)
theorem queue_rowOK {wi : Int → Option PWish} {k : KeyT} {hs : List (Int × Int)} {ws : List Int} (h : RowOK wi k hs ws) {tx want now : Int} (hw : want = 1 ∨ want = 2) (ht : 1 ≤ tx ∧ tx ≤ 1048576) (hlow : howH hs tx < want) (hno : tx ∉ ws) :
    RowOK (upd wi tx (some ⟨k, want, now⟩)) k hs (queueW hs ws tx) := by
  refine ⟨h.nd, h.rg, h.safe, ?_, fun t htm => ?_, ?_⟩
  · unfold queueW
    have := h.wnd
    rw [← List.take_append_drop (queueAt hs ws tx) ws] at this hno
    refine List.perm_middle.nodup_iff.2 (List.nodup_cons.2 ⟨hno, this⟩)
  · by_cases e : t = tx
    · subst e
      exact ⟨⟨k, want, now⟩, upd_same _ _ _, rfl, hlow, hw, ht⟩
    · rcases mem_queueW.1 htm with e' | htm
      · exact absurd e' e
      · obtain ⟨w, a⟩ := h.mem t htm
        exact ⟨w, by rw [upd_other e]; exact a⟩
  · obtain ⟨A, B, e, hA, hB⟩ := h.ris
    subst e
    rw [queueW_parts hA hB]
    split
    · rename_i h0
      exact ⟨A, B ++ [tx], by simp, hA, fun t ht => by
        rcases List.mem_append.1 ht with ht | ht
        · exact hB t ht
        · rw [show t = tx by simpa using ht]; exact h0⟩
    · rename_i h0
      exact ⟨A ++ [tx], B, by simp, fun t ht => by
        rcases List.mem_append.1 ht with ht | ht
        · exact hA t ht
        · rw [show t = tx by simpa using ht]; exact h0, hB⟩
theorem queue_head {wi : Int → Option PWish} {k : KeyT} {hs : List (Int × Int)} {ws : List Int} (h : RowOK wi k hs ws) (hh : HeadNo wi hs ws) {tx want now : Int} (hno : tx ∉ ws) (hm : (mayH hs tx want && (decide (howH hs tx ≠ 0) || decide (ws.length = 0))) = false) :
    HeadNo (upd wi tx (some ⟨k, want, now⟩)) hs (queueW hs ws tx) := by
  obtain ⟨A, B, e, hA, hB⟩ := h.ris
  subst e
  rw [queueW_parts hA hB]
  have hw : wantOf (upd wi tx (some ⟨k, want, now⟩)) tx = want := by simp [wantOf, upd_same]
  have ho : ∀ t, t ≠ tx → wantOf (upd wi tx (some ⟨k, want, now⟩)) t = wantOf wi t := fun t ht => wantOf_congr (upd_other ht)
  intro t r e
  by_cases h0 : howH hs tx = 0
  · rw [if_pos h0] at e
    cases hAB : A ++ B with
    | nil =>
      rw [hAB] at e hm
      simp only [List.nil_append, List.cons.injEq] at e
      rw [← e.1, hw]
      simpa using hm
    | cons a l =>
      rw [hAB] at e hno hh
      simp only [List.cons_append, List.cons.injEq] at e
      rw [← e.1, ho a (fun x => hno (by simp [x]))]
      exact hh a l rfl
  · rw [if_neg h0] at e
    cases A with
    | nil =>
      simp only [List.nil_append, List.cons.injEq] at e
      rw [← e.1, hw]
      simpa [h0] using hm
    | cons a l =>
      simp only [List.cons_append, List.cons.injEq] at e
      rw [← e.1, ho a (fun x => hno (by simp [x]))]
      exact hh a (l ++ B) rfl
theorem InvG.wish_other {st : PS} (h : Inv st) {tx : Int} (hn : st.wish tx = none) (k : KeyT) : tx ∉ (st.row k).ws := fun ht => by
  obtain ⟨w, h1, _⟩ := h.waits_iff.1 ht
  rw [hn] at h1; cases h1
theorem ask_inv {st : PS} (h : Inv st) (tx : Int) (k : KeyT) (ex : Bool) (now : Int) : Inv (askS st tx k ex now).1 := by
  unfold askS
  split
  · exact h
  · rename_i hb
    split
    · exact h
    · rename_i hlow
      have hb' : (1 ≤ tx ∧ tx ≤ 1048576) ∧ 0 ≤ now ∧ now ≤ 1099511627776 := by
        simp only [badAsk, Bool.or_eq_true, decide_eq_true_eq, not_or] at hb
        omega
      have hwant : wantN ex = 1 ∨ wantN ex = 2 := by cases ex <;> simp [wantN]
      cases hw : st.wish tx with
      | some w => exact h
      | none =>
        simp only []
        have hno := InvG.wish_other h hw
        split
        · rename_i hm
          simp only [Bool.and_eq_true, Bool.or_eq_true, decide_eq_true_eq] at hm
          have g := grant_rowOK (h.ok k) hwant hb'.1 (by omega) hm.1 (hno k) (hm.2.imp id List.eq_nil_of_length_eq_zero)
          have e0 : (grantH (st.row k).hs tx (wantN ex)).length ≠ 0 := fun e => grant_ne_nil _ _ _ (List.eq_nil_of_length_eq_zero e)
          refine InvG.inv (R := upd st.row k ⟨grantH (st.row k).hs tx (wantN ex), (st.row k).ws⟩) (done := fun _ => True) ⟨fun k' => ?_, fun k' _ => ?_, fun k' _ => ?_, fun t w hw' => ?_⟩ (fun _ => trivial)
          · by_cases e : k' = k
            · subst e; rw [upd_same]; exact g
            · rw [upd_other e]; exact h.ok k'
          · by_cases e : k' = k
            · subst e
              rw [upd_same]
              intro t r er
              -- riser: the others still may not; else no one waits
              have hh := h.head k' trivial t r er
              rcases hm.2 with h1 | h1
              · obtain ⟨w, a1, a2, a3, a4, a5⟩ := (h.ok k').mem t (by rw [er]; exact List.mem_cons_self)
                have hne : t ≠ tx := fun e => hno k' (by rw [er, e]; exact List.mem_cons_self)
                have hx : (tx, wantN ex) ∈ grantH (st.row k').hs tx (wantN ex) := by
                  have := grant_how_same (st.row k').hs tx (wantN ex)
                  have := howH_mem (hs := grantH (st.row k').hs tx (wantN ex)) (tx := tx) (by rw [this]; omega)
                  rwa [grant_how_same] at this
                have h2 : wantN ex = 2 := by have := howH_pos (h.ok k').rg h1; omega
                cases hmm : mayH (grantH (st.row k').hs tx (wantN ex)) t (wantOf st.wish t) with
                | false => rfl
                | true => exact absurd h2 ((mayH_iff.1 hmm _ hx (Ne.symm hne)).2)
              · rw [List.eq_nil_of_length_eq_zero h1] at er; cases er
            · rw [upd_other e]; exact h.head k' trivial
          · by_cases e : k' = k
            · subst e; rw [upd_same]; show upd st.rows k' _ k' = _; rw [upd_same]; simp [rowO, e0]
            · rw [upd_other e]; show upd st.rows k _ k' = _; rw [upd_other e]; exact h.rows k' trivial
          · obtain ⟨a1, a2⟩ := h.all t w hw'
            refine ⟨?_, a2⟩
            by_cases e : w.key = k
            · rw [e, upd_same]; exact e ▸ a1
            · rw [upd_other e]; exact a1
        · rename_i hm
          have g := queue_rowOK (now := now) (h.ok k) hwant hb'.1 (by omega) (hno k)
          have g2 := queue_head (now := now) (h.ok k) (h.head k trivial) (hno k) (by simpa using hm)
          have e0 : (st.row k).hs.length ≠ 0 := fun e => by
            have e1 := List.eq_nil_of_length_eq_zero e
            have e2 := (h.head k trivial).nil e
            rw [e1, e2] at hm
            simp [mayH] at hm
          refine InvG.inv (R := upd st.row k ⟨(st.row k).hs, queueW (st.row k).hs (st.row k).ws tx⟩) (done := fun _ => True) ⟨fun k' => ?_, fun k' _ => ?_, fun k' _ => ?_, fun t w hw' => ?_⟩ (fun _ => trivial)
          · by_cases e : k' = k
            · subst e; rw [upd_same]; exact g
            · rw [upd_other e]; exact (h.ok k').congr fun t ht => upd_other (fun e => hno k' (e ▸ ht))
          · by_cases e : k' = k
            · subst e; rw [upd_same]; exact g2
            · rw [upd_other e]; exact (h.head k' trivial).congr fun t ht => upd_other (fun e => hno k' (e ▸ ht))
          · by_cases e : k' = k
            · subst e; rw [upd_same]; show upd st.rows k' _ k' = _; rw [upd_same]; simp [rowO, e0]
            · rw [upd_other e]; show upd st.rows k _ k' = _; rw [upd_other e]; exact h.rows k' trivial
          · by_cases et : t = tx
            · subst et
              simp [upd_same] at hw'
              subst hw'
              exact ⟨by simp only [upd_same]; exact mem_queueW.2 (.inl rfl), hb'.2⟩
            · simp only [upd_other et] at hw'
              obtain ⟨a1, a2⟩ := h.all t w hw'
              refine ⟨?_, a2⟩
              by_cases e : w.key = k
              · rw [e, upd_same]; exact mem_queueW.2 (.inr (e ▸ a1))
              · rw [upd_other e]; exact a1

/-! ### Free -/
def goF (st : PS) (tx : Int) (k : KeyT) : List (Int × Int) × List Int := goH (wantOf st.wish) (releaseH (st.row k).hs tx) (leaveW (st.row k).ws tx)
def freeR (st : PS) (tx : Int) (k : KeyT) : PRow := ⟨(goF st tx k).1, (goF st tx k).2⟩
theorem touch_no {st : PS} {tx : Int} {k : KeyT} (h : touches st tx k = false) : howH (st.row k).hs tx = 0 ∧ tx ∉ (st.row k).ws := by simpa [touches] using h
theorem leave_no {ws : List Int} {tx : Int} (h : tx ∉ ws) : leaveW ws tx = ws := List.filter_eq_self.2 fun t ht => by simpa using fun e : t = tx => h (e ▸ ht)
theorem release_no {hs : List (Int × Int)} {tx : Int} (h : ∀ p ∈ hs, p.1 ≠ tx) : releaseH hs tx = hs := List.filter_eq_self.2 fun p hp => by simpa using h p hp
/-- In the midst of Free: R are the rows that there are to be, or to go on with. -/
structure InFree (st0 st : PS) (tx : Int) (R : KeyT → PRow) (todo : List KeyT) : Prop where
  inv : InvG st R fun k => k ∉ todo
  rest : ∀ k ∈ todo, st.row k = st0.row k ∧ R k = ⟨releaseH (st0.row k).hs tx, leaveW (st0.row k).ws tx⟩
  wish : ∀ k ∈ todo, ∀ t ∈ leaveW (st0.row k).ws tx, st.wish t = st0.wish t
  gone : st.wish tx = none
  only : ∀ t w, st.wish t = some w → st0.wish t = some w
theorem InFree.step {st0 st : PS} {tx : Int} {R : KeyT → PRow} {k : KeyT} {todo : List KeyT} (h0 : Inv st0) (h : InFree st0 st tx R (k :: todo)) (hk : k ∉ todo) : InFree st0 (freeK tx st k) tx (upd R k (freeR st0 tx k)) todo := by
  obtain ⟨a1, a2⟩ := h.rest k List.mem_cons_self
  have hw : ∀ t ∈ leaveW (st0.row k).ws tx, wantOf st.wish t = wantOf st0.wish t := fun t ht => wantOf_congr (h.wish k List.mem_cons_self t ht)
  have e1 : goH (wantOf st.wish) (R k).hs (R k).ws = goF st0 tx k := by
    rw [a2]
    exact goH_want hw
  have e2 : freeK tx st k = goOnS st k (R k) := by unfold freeK; rw [a1, a2]
  have g := goOn_inv h.inv k
  rw [e1] at g
  rw [e2]
  refine ⟨⟨g.ok, fun k' hk' => g.head k' ?_, fun k' hk' => g.rows k' ?_, g.all⟩, fun k' hk' => ?_, fun k' hk' t ht => ?_, ?_, fun t w hw' => ?_⟩
  · by_cases e : k' = k
    · exact .inl e
    · exact .inr fun hm => by rcases List.mem_cons.1 hm with h | h; exact e h; exact hk' h
  · by_cases e : k' = k
    · exact .inl e
    · exact .inr fun hm => by rcases List.mem_cons.1 hm with h | h; exact e h; exact hk' h
  · have e : k' ≠ k := fun e => hk (e ▸ hk')
    obtain ⟨b1, b2⟩ := h.rest k' (List.mem_cons_of_mem _ hk')
    refine ⟨?_, by rw [upd_other e]; exact b2⟩
    rw [← b1]
    simp only [goOnS, PS.row]
    rw [upd_other e]
  · have e : k' ≠ k := fun e => hk (e ▸ hk')
    rw [← h.wish k' (List.mem_cons_of_mem _ hk') t ht]
    simp only [goOnS]
    rw [if_neg]
    rintro ⟨hx, _⟩
    rw [a2] at hx
    obtain ⟨w, c1, c2⟩ := h0.waits_iff.1 (mem_leaveW.1 hx).1
    obtain ⟨w', d1, d2⟩ := h0.waits_iff.1 (mem_leaveW.1 ht).1
    rw [c1] at d1
    cases d1
    exact e (d2.symm.trans c2)
  · simp only [goOnS]
    split
    · rfl
    · exact h.gone
  · simp only [goOnS] at hw'
    split at hw'
    · cases hw'
    · exact h.only t w hw'
theorem InFree.all {st0 : PS} {tx : Int} (h0 : Inv st0) : ∀ (todo : List KeyT) (st : PS) (R : KeyT → PRow), todo.Nodup → InFree st0 st tx R todo → InFree st0 (todo.foldl (freeK tx) st) tx (fun k => if k ∈ todo then freeR st0 tx k else R k) []
  | [], st, R, _, h => by simpa using h
  | k :: todo, st, R, hn, h => by
    have hn' := List.nodup_cons.1 hn
    have := InFree.all h0 todo _ _ hn'.2 (h.step h0 hn'.1)
    rw [List.foldl_cons]
    have e : (fun k' => if k' ∈ k :: todo then freeR st0 tx k' else R k') = (fun k' => if k' ∈ todo then freeR st0 tx k' else upd R k (freeR st0 tx k) k') := by
      funext k'
      by_cases e1 : k' ∈ todo
      · rw [if_pos e1, if_pos (List.mem_cons_of_mem _ e1)]
      · rw [if_neg e1]
        by_cases e2 : k' = k
        · subst e2; rw [upd_same, if_pos List.mem_cons_self]
        · rw [upd_other e2, if_neg (fun hm => by rcases List.mem_cons.1 hm with h | h; exact e2 h; exact e1 h)]
    rw [e]
    exact this
theorem InFree.start {st : PS} {tx : Int} {ks : List KeyT} (h : Inv st) (hks : ∀ k, k ∈ ks ↔ touches st tx k = true) : InFree st { st with wish := upd st.wish tx none } tx (fun k => ⟨releaseH (st.row k).hs tx, leaveW (st.row k).ws tx⟩) ks := by
  have hno : ∀ k, k ∉ ks → howH (st.row k).hs tx = 0 ∧ tx ∉ (st.row k).ws := fun k hk => touch_no (by cases ht : touches st tx k; rfl; exact absurd ((hks k).2 ht) hk)
  have hrel : ∀ k, k ∉ ks → releaseH (st.row k).hs tx = (st.row k).hs := fun k hk => release_no (not_holds (h.ok k).nd (h.ok k).rg (hno k hk).1)
  refine ⟨⟨fun k => (h.ok k).free tx fun t ht => upd_other ht, fun k hk => ?_, fun k hk => ?_, fun t w hw => ?_⟩, fun k _ => ⟨rfl, rfl⟩, fun k _ t ht => upd_other (mem_leaveW.1 ht).2, upd_same _ _ _, fun t w hw => ?_⟩
  · simp only [hrel k hk, leave_no (hno k hk).2]
    exact (h.head k trivial).congr fun t ht => upd_other fun e => (hno k hk).2 (e ▸ ht)
  · simp only [hrel k hk, leave_no (hno k hk).2]
    exact h.rows k trivial
  · have ht : t ≠ tx := fun e => by subst e; simp [upd_same] at hw
    simp only [upd_other ht] at hw
    obtain ⟨a1, a2⟩ := h.all t w hw
    exact ⟨mem_leaveW.2 ⟨a1, ht⟩, a2⟩
  · by_cases ht : t = tx
    · subst ht; simp [upd_same] at hw
    · simpa only [upd_other ht] using hw
/-- What Free comes to. -/
structure FreeSays (st st' : PS) (tx : Int) : Prop where
  inv : Inv st'
  row : ∀ k, st'.row k = freeR st tx k
  only : ∀ t w, st'.wish t = some w → st.wish t = some w
  gone : st'.wish tx = none
  wait : st'.wait = st.wait
theorem freeR_no {st : PS} (h : Inv st) {tx : Int} {k : KeyT} (ht : touches st tx k = false) : freeR st tx k = st.row k := by
  have hno := touch_no ht
  unfold freeR goF
  rw [leave_no hno.2, release_no (not_holds (h.ok k).nd (h.ok k).rg hno.1), goH_stays (h.head k trivial)]
theorem freeK_wait (tx : Int) : ∀ (ks : List KeyT) (st : PS), (ks.foldl (freeK tx) st).wait = st.wait
  | [], _ => rfl
  | k :: ks, st => by rw [List.foldl_cons, freeK_wait tx ks]; rfl
theorem free_says {st : PS} (h : Inv st) (tx : Int) {ks : List KeyT} (hn : ks.Nodup) (hks : ∀ k, k ∈ ks ↔ touches st tx k = true) : FreeSays st (freeL st tx ks) tx := by
  have g := InFree.all h ks _ _ hn (InFree.start h hks)
  have hall : ∀ k : KeyT, k ∉ ([] : List KeyT) := fun k => List.not_mem_nil
  refine ⟨g.inv.inv hall, fun k => ?_, g.only, g.gone, freeK_wait tx ks _⟩
  show (List.foldl (freeK tx) _ ks).row k = _
  rw [g.inv.row (hall k)]
  by_cases hk : k ∈ ks
  · rw [if_pos hk]
  · rw [if_neg hk]
    have ht : touches st tx k = false := by cases ht : touches st tx k; rfl; exact absurd ((hks k).2 ht) hk
    have hno := touch_no ht
    rw [freeR_no h ht, leave_no hno.2, release_no (not_holds (h.ok k).nd (h.ok k).rg hno.1)]
end Go.Proofs.Ytnfodidfhnofkaa
