/- What the document's own table does goes with what the table of rows does: Ask, Quit, Free. No program. -/
import Derived.Test.YtnfodidfhnofkaaIa
namespace Go.Proofs.Ytnfodidfhnofkaa

theorem placeOf_take {α : Type} (p : α → Bool) : ∀ (l : List α), ∀ x ∈ l.take (placeOf p l), p x = false
  | [], x, h => by simp at h
  | y :: l, x, h => by
    unfold placeOf at h
    cases hp : p y with
    | true => rw [hp] at h; simp at h
    | false =>
      rw [hp] at h
      simp only [Bool.false_eq_true, if_false, List.take_succ_cons] at h
      rcases List.mem_cons.1 h with rfl | h
      · exact hp
      · exact placeOf_take p l x h
theorem placeOf_drop {α : Type} (p : α → Bool) : ∀ (l : List α), l.drop (placeOf p l) = [] ∨ ∃ x r, l.drop (placeOf p l) = x :: r ∧ p x = true ∧ l[placeOf p l]? = some x
  | [] => .inl rfl
  | y :: l => by
    unfold placeOf
    cases hp : p y with
    | true => exact .inr ⟨y, l, rfl, hp, rfl⟩
    | false =>
      simp only [Bool.false_eq_true, if_false, List.drop_succ_cons]
      rcases placeOf_drop p l with h | ⟨x, r, h1, h2, h3⟩
      · exact .inl h
      · exact .inr ⟨x, r, h1, h2, by simpa using h3⟩
theorem placeOf_append {α : Type} (p : α → Bool) : ∀ (A B : List α), (∀ x ∈ A, p x = false) → (∀ x ∈ B, p x = true) → placeOf p (A ++ B) = A.length
  | [], [], _, _ => rfl
  | [], y :: B, _, h => by simp [placeOf, h y List.mem_cons_self]
  | x :: A, B, h1, h2 => by
    have := placeOf_append p A B (fun y hy => h1 y (List.mem_cons_of_mem _ hy)) h2
    simp [placeOf, h1 x List.mem_cons_self, this]
/-- Those that rise are ahead of the others. -/
theorem rises_split {q : List RHold} (h : q.Pairwise fun a b => b.rises = true → a.rises = true) : (∀ x ∈ q.take (placeOf (fun h => !h.rises) q), x.rises = true) ∧ ∀ x ∈ q.drop (placeOf (fun h => !h.rises) q), x.rises = false := by
  refine ⟨fun x hx => by simpa using placeOf_take _ q x hx, fun x hx => ?_⟩
  have hs := h.sublist (List.drop_sublist (placeOf (fun h => !h.rises) q) q)
  rcases placeOf_drop (fun h : RHold => !h.rises) q with e | ⟨y, r, e, e2, _⟩
  · rw [e] at hx; cases hx
  · rw [e] at hx hs
    have e3 : y.rises = false := by simpa using e2
    rcases List.mem_cons.1 hx with rfl | hx
    · exact e3
    · cases hr : x.rises with
      | false => rfl
      | true =>
        have := (List.pairwise_cons.1 hs).1 x hx hr
        rw [e3] at this
        cases this

/-! ### Ask -/
theorem row_upd (st : PS) (k : KeyT) (r : PRow) (wi : Int → Option PWish) (k' : KeyT) : PS.row { st with rows := upd st.rows k (some r), wish := wi } k' = if k' = k then r else st.row k' := by
  show (upd st.rows k (some r) k').getD ⟨[], []⟩ = _
  by_cases e : k' = k
  · subst e; rw [upd_same, if_pos rfl]; rfl
  · rw [upd_other e, if_neg e]; rfl
theorem RelQ.ask {st : PS} {rs : RS} (h : RelQ st rs) (tx : Int) (k : KeyT) (ex : Bool) (now : Int) : (askQ rs tx k ex now).2 = (askS st tx k ex now).2 ∧ RelQ (askS st tx k ex now).1 (askQ rs tx k ex now).1 := by
  have hI := ask_inv h.inv tx k ex now
  have hh := h.how tx k
  unfold askQ
  unfold askS at hI ⊢
  cases hb : badAsk tx now with
  | true => exact ⟨rfl, by simpa using h⟩
  | false =>
    rw [hb] at hI
    simp only [Bool.false_eq_true, if_false] at hI ⊢
    rw [hh]
    by_cases hlow : wantN ex ≤ howH (st.row k).hs tx
    · rw [if_pos hlow, if_pos hlow]
      exact ⟨rfl, h⟩
    · rw [if_neg hlow] at hI
      rw [if_neg hlow, if_neg hlow, h.waits]
      cases hw : st.wish tx with
      | some p => exact ⟨rfl, h⟩
      | none =>
        rw [hw] at hI
        simp only [Option.map_none] at hI ⊢
        have hc := howH_cases (h.inv.ok k).rg tx
        have hd : decide (howH (st.row k).hs tx = 1) = decide (howH (st.row k).hs tx ≠ 0) := by
          rcases hc with e | e | e
          · rw [e]; rfl
          · rw [e]; rfl
          · exact absurd (by rw [e]; cases ex <;> decide) hlow
        rw [hd, mayQ_is, h.hs, h.alone]
        rw [Bool.or_comm (decide ((st.row k).ws.length = 0))]
        have hnt : ∀ x ∈ rs.queue, x.tx ≠ tx := fun x hx e => by
          have := h.wish x hx
          rw [e, hw] at this
          cases this
        split
        · rename_i hg
          rw [if_pos hg] at hI
          refine ⟨rfl, hI, h.wait, fun k' => ?_, fun k' => ?_, h.wish, fun x hx => ?_, h.row⟩
          · show hsOf (grantQ rs.holds _) k' = (PS.row { st with rows := upd st.rows k _, wish := st.wish } k').hs
            rw [row_upd]
            by_cases e : k' = k
            · subst e
              rw [if_pos rfl, grantQ_same]
              · rw [h.hs]
              · rw [h.hs]; show howH (st.row k').hs tx < wantN ex; omega
            · rw [if_neg e, grantQ_other _ _ e, h.hs]
          · show wsOf rs.queue k' = (PS.row { st with rows := upd st.rows k _, wish := st.wish } k').ws
            rw [row_upd, h.ws]
            by_cases e : k' = k
            · subst e; rw [if_pos rfl]
            · rw [if_neg e]
          · show x.rises = decide (howH (PS.row { st with rows := upd st.rows k _, wish := st.wish } x.key).hs x.tx ≠ 0)
            rw [row_upd, h.ris x hx]
            by_cases e : x.key = k
            · rw [if_pos e, grant_how_other _ (hnt x hx), e]
            · rw [if_neg e]
        · rename_i hg
          rw [if_neg hg] at hI
          have hsp := rises_split h.row
          have htd : rs.queue.take (atQ rs.queue (decide (howH (st.row k).hs tx ≠ 0))) ++ rs.queue.drop (atQ rs.queue (decide (howH (st.row k).hs tx ≠ 0))) = rs.queue := List.take_append_drop _ _
          have hq : wsOf (rs.queue.take (atQ rs.queue (decide (howH (st.row k).hs tx ≠ 0)))) k ++ tx :: wsOf (rs.queue.drop (atQ rs.queue (decide (howH (st.row k).hs tx ≠ 0)))) k = queueW (st.row k).hs (st.row k).ws tx := by
            have hws := h.ws k
            unfold queueW queueAt
            by_cases e0 : howH (st.row k).hs tx = 0
            · rw [decide_eq_false (by simpa using e0), if_pos e0, ← hws]
              show wsOf (rs.queue.take rs.queue.length) k ++ tx :: wsOf (rs.queue.drop rs.queue.length) k = _
              rw [List.take_length, List.take_length, List.drop_length, List.drop_length]
              rfl
            · rw [decide_eq_true e0, if_neg e0]
              unfold atQ
              simp only [if_true]
              have e1 : (st.row k).ws = wsOf (rs.queue.take (placeOf (fun h => !h.rises) rs.queue)) k ++ wsOf (rs.queue.drop (placeOf (fun h => !h.rises) rs.queue)) k := by
                rw [← wsOf_append, List.take_append_drop, hws]
              have e2 : placeOf (fun t => howH (st.row k).hs t == 0) (st.row k).ws = (wsOf (rs.queue.take (placeOf (fun h => !h.rises) rs.queue)) k).length := by
                rw [e1]
                refine placeOf_append _ _ _ (fun t ht => ?_) fun t ht => ?_
                · obtain ⟨x, a, b, c⟩ := mem_wsOf.1 ht
                  have := h.ris x (List.mem_of_mem_take a)
                  rw [hsp.1 x a, b, c] at this
                  simpa using this.symm
                · obtain ⟨x, a, b, c⟩ := mem_wsOf.1 ht
                  have := h.ris x (List.mem_of_mem_drop a)
                  rw [hsp.2 x a, b, c] at this
                  simpa using this.symm
              rw [e2, e1, List.take_left, List.drop_left]
          have hmem : ∀ x, x ∈ rs.queue.take (atQ rs.queue (decide (howH (st.row k).hs tx ≠ 0))) ++ (⟨tx, k, ex, now, decide (howH (st.row k).hs tx ≠ 0)⟩ : RHold) :: rs.queue.drop (atQ rs.queue (decide (howH (st.row k).hs tx ≠ 0))) → x = ⟨tx, k, ex, now, decide (howH (st.row k).hs tx ≠ 0)⟩ ∨ x ∈ rs.queue := fun x hx => by
            rcases List.mem_append.1 hx with hx | hx
            · exact .inr (List.mem_of_mem_take hx)
            · rcases List.mem_cons.1 hx with hx | hx
              · exact .inl hx
              · exact .inr (List.mem_of_mem_drop hx)
          refine ⟨rfl, hI, h.wait, fun k' => ?_, fun k' => ?_, fun x hx => ?_, fun x hx => ?_, ?_⟩
          · show hsOf rs.holds k' = (PS.row { st with rows := upd st.rows k _, wish := _ } k').hs
            rw [row_upd, h.hs]
            by_cases e : k' = k
            · subst e; rw [if_pos rfl]
            · rw [if_neg e]
          · show wsOf (_ ++ _ :: _) k' = (PS.row { st with rows := upd st.rows k _, wish := _ } k').ws
            rw [row_upd, wsOf_append, wsOf_cons]
            by_cases e : k' = k
            · subst e
              rw [if_pos rfl, if_pos rfl]
              exact hq
            · rw [if_neg e, if_neg (fun e2 => e e2.symm), ← wsOf_append, htd, h.ws]
          · show upd st.wish tx _ x.tx = _
            rcases hmem x hx with rfl | hx
            · rw [upd_same]
            · rw [upd_other (hnt x hx)]
              exact h.wish x hx
          · show x.rises = decide (howH (PS.row { st with rows := upd st.rows k _, wish := _ } x.key).hs x.tx ≠ 0)
            rw [row_upd]
            have e2 : (if x.key = k then (⟨(st.row k).hs, queueW (st.row k).hs (st.row k).ws tx⟩ : PRow) else st.row x.key).hs = (st.row x.key).hs := by
              split
              · rename_i e; rw [e]
              · rfl
            rw [e2]
            rcases hmem x hx with rfl | hx
            · rfl
            · exact h.ris x hx
          · show (_ ++ _ :: _ : List RHold).Pairwise _
            have hp := h.row
            by_cases e0 : howH (st.row k).hs tx = 0
            · rw [decide_eq_false (by simpa using e0)]
              simp only [atQ, Bool.false_eq_true, if_false, List.take_length, List.drop_length]
              rw [List.pairwise_append]
              refine ⟨hp, List.pairwise_singleton _ _, fun a _ b hb => ?_⟩
              simp only [List.mem_singleton] at hb
              subst hb
              intro e; cases e
            · rw [decide_eq_true e0]
              simp only [atQ, if_true]
              rw [List.pairwise_append, List.pairwise_cons]
              refine ⟨hp.sublist (List.take_sublist _ _), ⟨fun b _ _ => rfl, hp.sublist (List.drop_sublist _ _)⟩, fun a ha b hb hr => hsp.1 a ha⟩

/-! ### a key goes on -/
structure RelR (R : KeyT → PRow) (wi : Int → Option PWish) (rs : RS) : Prop where
  ok : ∀ k, RowOK wi k (R k).hs (R k).ws
  hs : ∀ k, hsOf rs.holds k = (R k).hs
  ws : ∀ k, wsOf rs.queue k = (R k).ws
  wish : ∀ h ∈ rs.queue, wi h.tx = some ⟨h.key, wantN h.ex, h.since⟩
  ris : ∀ h ∈ rs.queue, h.rises = decide (howH (R h.key).hs h.tx ≠ 0)
  row : rs.queue.Pairwise fun a b => b.rises = true → a.rises = true
def goP (wi : Int → Option PWish) (r : PRow) : PRow := ⟨(goH (wantOf wi) r.hs r.ws).1, (goH (wantOf wi) r.hs r.ws).2⟩
theorem upd_id {α β : Type} [DecidableEq α] (f : α → β) (x : α) : upd f x (f x) = f := funext fun z => by
  by_cases e : z = x
  · subst e; rw [upd_same]
  · rw [upd_other e]
theorem upd_upd {α β : Type} [DecidableEq α] (f : α → β) (x : α) (y z : β) : upd (upd f x y) x z = upd f x z := funext fun u => by
  by_cases e : u = x
  · subst e; rw [upd_same, upd_same]
  · rw [upd_other e, upd_other e, upd_other e]
theorem wsOf_no {l : List RHold} {k : KeyT} (h : ∀ x ∈ l, ofKey k x = false) : wsOf l k = [] := by
  unfold wsOf
  rw [List.filter_eq_nil_iff.2 fun x hx => by rw [h x hx]; decide]
  rfl
theorem RelR.on {wi : Int → Option PWish} (k : KeyT) : ∀ (f : Nat) {R : KeyT → PRow} {rs : RS}, RelR R wi rs → (wsOf rs.queue k).length ≤ f → RelR (upd R k (goP wi (R k))) wi (onQ k f rs) ∧ (onQ k f rs).wait = rs.wait
  | 0, R, rs, h, hf => by
    have e : (R k).ws = [] := by rw [← h.ws]; exact List.eq_nil_of_length_eq_zero (by omega)
    have e2 : goP wi (R k) = R k := by unfold goP; rw [e]; show PRow.mk (R k).hs [] = _; rw [← e]
    rw [e2, upd_id]
    exact ⟨h, rfl⟩
  | f + 1, R, rs, h, hf => by
    unfold onQ
    have hno : ∀ x ∈ rs.queue.take (placeOf (ofKey k) rs.queue), ofKey k x = false := placeOf_take _ _
    rcases placeOf_drop (ofKey k) rs.queue with e | ⟨w, Q2, e, e2, e3⟩
    · have hnone : rs.queue[placeOf (ofKey k) rs.queue]? = none := List.getElem?_eq_none (List.drop_eq_nil_iff.1 e)
      rw [hnone]
      have e4 : (R k).ws = [] := by
        rw [← h.ws]
        have := List.take_append_drop (placeOf (ofKey k) rs.queue) rs.queue
        rw [e, List.append_nil] at this
        rw [← this]
        exact wsOf_no hno
      have e5 : goP wi (R k) = R k := by unfold goP; rw [e4]; show PRow.mk (R k).hs [] = _; rw [← e4]
      rw [e5, upd_id]
      exact ⟨h, rfl⟩
    · rw [e3]
      have hd1 : rs.queue.drop (placeOf (ofKey k) rs.queue + 1) = Q2 := by
        rw [← List.drop_drop, e]; rfl
      rw [hd1]
      have hsp : rs.queue = rs.queue.take (placeOf (ofKey k) rs.queue) ++ w :: Q2 := by
        rw [← e, List.take_append_drop]
      generalize rs.queue.take (placeOf (ofKey k) rs.queue) = Q1 at hno hsp ⊢
      have hwk : w.key = k := by simpa [ofKey] using e2
      have hwq : w ∈ rs.queue := by rw [hsp]; simp
      have hwsk : (R k).ws = w.tx :: wsOf Q2 k := by
        rw [← h.ws, hsp, wsOf_append, wsOf_no hno, List.nil_append, wsOf_cons, if_pos hwk]
      have hsub : ∀ x ∈ Q1 ++ Q2, x ∈ rs.queue := fun x hx => by
        rw [hsp]
        rcases List.mem_append.1 hx with hx | hx
        · exact List.mem_append_left _ hx
        · exact List.mem_append_right _ (List.mem_cons_of_mem _ hx)
      have hwish := h.wish w hwq
      have hwant : wantOf wi w.tx = wantN w.ex := by simp [wantOf, hwish]
      have hmq : mayQ rs.holds w = mayH (R k).hs w.tx (wantOf wi w.tx) := by rw [mayQ_is, hwk, h.hs, hwant]
      have hok : RowOK wi k (R k).hs (w.tx :: wsOf Q2 k) := by have := h.ok k; rw [hwsk] at this; exact this
      have hgo : goP wi (R k) = if mayH (R k).hs w.tx (wantOf wi w.tx) then goP wi ⟨grantH (R k).hs w.tx (wantOf wi w.tx), wsOf Q2 k⟩ else R k := by
        unfold goP
        rw [hwsk]
        conv => lhs; unfold goH
        split
        · rfl
        · rw [← hwsk]
      show RelR _ wi (if mayQ rs.holds w then _ else rs) ∧ (if mayQ rs.holds w then _ else rs).wait = rs.wait
      rw [hmq, hgo]
      split
      · rename_i hm
        have hst := hok.step hm
        have hlow : howH (R k).hs w.tx < wantN w.ex := by
          obtain ⟨w', a, _, b, _⟩ := hok.mem w.tx List.mem_cons_self
          rw [hwish] at a
          cases a
          exact b
        have hnd := List.nodup_cons.1 hok.wnd
        have h1 : RelR (upd R k ⟨grantH (R k).hs w.tx (wantOf wi w.tx), wsOf Q2 k⟩) wi { rs with holds := grantQ rs.holds w, queue := Q1 ++ Q2 } := by
          refine ⟨fun k' => ?_, fun k' => ?_, fun k' => ?_, fun x hx => h.wish x (hsub x hx), fun x hx => ?_, ?_⟩
          · by_cases e : k' = k
            · subst e; rw [upd_same]; exact hst
            · rw [upd_other e]; exact h.ok k'
          · show hsOf (grantQ rs.holds w) k' = _
            by_cases e : k' = k
            · subst e
              rw [upd_same]
              have := grantQ_same rs.holds w (by rw [hwk, h.hs]; exact hlow)
              rw [hwk, h.hs, ← hwant] at this
              exact this
            · rw [upd_other e, grantQ_other _ _ (by rw [hwk]; exact e), h.hs]
          · show wsOf (Q1 ++ Q2) k' = _
            by_cases e : k' = k
            · subst e
              rw [upd_same, wsOf_append, wsOf_no hno]
              rfl
            · rw [upd_other e, ← h.ws, hsp, wsOf_append, wsOf_append, wsOf_cons, if_neg (fun e2 => e (e2.symm.trans hwk))]
          · rw [h.ris x (hsub x hx)]
            by_cases e : x.key = k
            · rw [e, upd_same]
              have hne : x.tx ≠ w.tx := fun e4 => hnd.1 (by
                rcases List.mem_append.1 hx with hx | hx
                · have := hno x hx; simp [ofKey, e] at this
                · rw [← e4]; exact mem_wsOf.2 ⟨x, hx, e, rfl⟩)
              show _ = decide (howH (grantH (R k).hs w.tx (wantOf wi w.tx)) x.tx ≠ 0)
              rw [grant_how_other _ hne]
            · rw [upd_other e]
          · have hp := h.row
            rw [hsp] at hp
            exact hp.sublist (List.Sublist.append (List.Sublist.refl _) (List.sublist_cons_self _ _))
        have hlen : (wsOf (Q1 ++ Q2) k).length ≤ f := by
          rw [wsOf_append, wsOf_no hno, List.nil_append]
          rw [h.ws, hwsk] at hf
          simpa using hf
        have ih := RelR.on k f h1 hlen
        rw [upd_upd, upd_same] at ih
        exact ih
      · rw [upd_id]
        exact ⟨h, rfl⟩
theorem wsOf_len (l : List RHold) (k : KeyT) : (wsOf l k).length ≤ l.length := by
  unfold wsOf
  rw [List.length_map]
  exact List.length_filter_le _ _
theorem RelR.onS {R : KeyT → PRow} {wi : Int → Option PWish} {rs : RS} (h : RelR R wi rs) (k : KeyT) : RelR (upd R k (goP wi (R k))) wi (onQS k rs) ∧ (onQS k rs).wait = rs.wait := RelR.on k _ h (wsOf_len _ _)
theorem RelR.fold {wi : Int → Option PWish} : ∀ (ks : List KeyT) {R : KeyT → PRow} {rs : RS}, ks.Nodup → RelR R wi rs → RelR (fun k => if k ∈ ks then goP wi (R k) else R k) wi (ks.foldl (fun r k => onQS k r) rs) ∧ (ks.foldl (fun r k => onQS k r) rs).wait = rs.wait
  | [], R, rs, _, h => ⟨by simpa using h, rfl⟩
  | k :: ks, R, rs, hn, h => by
    have hn' := List.nodup_cons.1 hn
    obtain ⟨h1, h2⟩ := h.onS k
    have ih := RelR.fold ks hn'.2 h1
    rw [h2] at ih
    have e : (fun k' => if k' ∈ ks then goP wi (upd R k (goP wi (R k)) k') else upd R k (goP wi (R k)) k') = fun k' => if k' ∈ k :: ks then goP wi (R k') else R k' := funext fun k' => by
      by_cases e : k' = k
      · subst e
        rw [if_neg hn'.1, upd_same, if_pos List.mem_cons_self]
      · rw [upd_other e]
        by_cases e2 : k' ∈ ks
        · rw [if_pos e2, if_pos (List.mem_cons_of_mem _ e2)]
        · rw [if_neg e2, if_neg (fun e3 => by rcases List.mem_cons.1 e3 with e4 | e4; exact e e4; exact e2 e4)]
    rw [e] at ih
    exact ih

/-! ### Quit, Free -/
theorem leave_all {ws : List Int} {tx : Int} (h : tx ∉ ws) : leaveW ws tx = ws := List.filter_eq_self.2 fun t ht => by simp; rintro rfl; exact h ht
/-- What a transaction leaves. -/
theorem RelQ.gone {st : PS} {rs : RS} (h : RelQ st rs) (tx : Int) : RelR (fun k => ⟨releaseH (st.row k).hs tx, leaveW (st.row k).ws tx⟩) (upd st.wish tx none) { rs with holds := rs.holds.filter (notTx tx), queue := rs.queue.filter (notTx tx) } := by
  have hne : ∀ x ∈ rs.queue.filter (notTx tx), x ∈ rs.queue ∧ x.tx ≠ tx := fun x hx => by
    obtain ⟨a, b⟩ := List.mem_filter.1 hx
    exact ⟨a, by simpa [notTx] using b⟩
  refine ⟨fun k => (h.inv.ok k).free tx fun t ht => upd_other ht, fun k => ?_, fun k => ?_, fun x hx => ?_, fun x hx => ?_, h.row.filter _⟩
  · show hsOf (rs.holds.filter (notTx tx)) k = _
    rw [hsOf_not, h.hs]
  · show wsOf (rs.queue.filter (notTx tx)) k = _
    rw [wsOf_not, h.ws]
  · obtain ⟨a, b⟩ := hne x hx
    rw [upd_other b]
    exact h.wish x a
  · obtain ⟨a, b⟩ := hne x hx
    show x.rises = decide (howH (releaseH (st.row x.key).hs tx) x.tx ≠ 0)
    rw [howH_release, if_neg b]
    exact h.ris x a
theorem RelQ.of {st : PS} {R : KeyT → PRow} {wi : Int → Option PWish} {rs : RS} (hI : Inv st) (h : RelR R wi rs) (hw : rs.wait = st.wait) (hr : ∀ k, st.row k = R k) (hs : ∀ x ∈ rs.queue, ∀ w, st.wish x.tx = some w → wi x.tx = some w) : RelQ st rs := by
  refine ⟨hI, hw, fun k => by rw [hr, h.hs], fun k => by rw [hr, h.ws], fun x hx => ?_, fun x hx => by rw [hr]; exact h.ris x hx, h.row⟩
  have hm : x.tx ∈ (st.row x.key).ws := by rw [hr, ← h.ws]; exact mem_wsOf.2 ⟨x, hx, rfl, rfl⟩
  obtain ⟨w, h1, _⟩ := hI.waits_iff.1 hm
  have h2 := hs x hx w h1
  rw [h.wish x hx] at h2
  cases h2
  exact h1
theorem RelQ.free {st st' : PS} {rs : RS} (h : RelQ st rs) {tx : Int} (hf : FreeSays st st' tx) {ks : List KeyT} (hn : ks.Nodup) (hks : ∀ k, touches st tx k = true → k ∈ ks) : RelQ st' (freeQ rs tx ks) := by
  obtain ⟨h1, h2⟩ := RelR.fold ks hn (h.gone tx)
  refine RelQ.of hf.inv h1 (h2.trans (h.wait.trans hf.wait.symm)) (fun k => ?_) fun x hx w hw => ?_
  · have e : goP (upd st.wish tx none) ⟨releaseH (st.row k).hs tx, leaveW (st.row k).ws tx⟩ = freeR st tx k := by
      unfold goP freeR goF
      have : goH (wantOf (upd st.wish tx none)) (releaseH (st.row k).hs tx) (leaveW (st.row k).ws tx) = goH (wantOf st.wish) (releaseH (st.row k).hs tx) (leaveW (st.row k).ws tx) := goH_want fun t ht => by
        have := (mem_leaveW.1 ht).2
        simp [wantOf, upd_other this]
      rw [this]
    rw [hf.row k]
    by_cases hk : k ∈ ks
    · rw [if_pos hk, e]
    · rw [if_neg hk]
      have ht : touches st tx k = false := by cases ht : touches st tx k; rfl; exact absurd (hks k ht) hk
      have hno := touch_no ht
      rw [freeR_no h.inv ht, leave_no hno.2, release_no (not_holds (h.inv.ok k).nd (h.inv.ok k).rg hno.1)]
  · have hne : x.tx ≠ tx := fun e => by rw [e, hf.gone] at hw; cases hw
    rw [upd_other hne]
    exact hf.only _ _ hw
theorem RelQ.quit {st : PS} {rs : RS} (h : RelQ st rs) (tx : Int) : (quitQ rs tx).2 = (quitS st tx).2 ∧ RelQ (quitS st tx).1 (quitQ rs tx).1 := by
  have hI := quit_inv h.inv tx
  unfold quitQ
  unfold quitS at hI ⊢
  rw [h.waits]
  cases hw : st.wish tx with
  | none => exact ⟨rfl, h⟩
  | some w =>
    rw [hw] at hI
    simp only [Option.map_some] at hI ⊢
    refine ⟨trivial, ?_⟩
    have hnt : ∀ k, k ≠ w.key → tx ∉ (st.row k).ws := fun k hk hm => by
      obtain ⟨w', h1, h2⟩ := h.inv.waits_iff.1 hm
      rw [hw] at h1
      cases h1
      exact hk h2.symm
    have h0 : RelR (upd st.row w.key ⟨(st.row w.key).hs, leaveW (st.row w.key).ws tx⟩) (upd st.wish tx none) { rs with queue := rs.queue.filter (notTx tx) } := by
      have hne : ∀ x ∈ rs.queue.filter (notTx tx), x ∈ rs.queue ∧ x.tx ≠ tx := fun x hx => by
        obtain ⟨a, b⟩ := List.mem_filter.1 hx
        exact ⟨a, by simpa [notTx] using b⟩
      have hh : ∀ k, (upd st.row w.key ⟨(st.row w.key).hs, leaveW (st.row w.key).ws tx⟩ k).hs = (st.row k).hs := fun k => by
        by_cases e : k = w.key
        · subst e; rw [upd_same]
        · rw [upd_other e]
      have hs : ∀ k, (upd st.row w.key ⟨(st.row w.key).hs, leaveW (st.row w.key).ws tx⟩ k).ws = leaveW (st.row k).ws tx := fun k => by
        by_cases e : k = w.key
        · subst e; rw [upd_same]
        · rw [upd_other e, leave_all (hnt k e)]
      refine ⟨fun k => ?_, fun k => ?_, fun k => ?_, fun x hx => ?_, fun x hx => ?_, h.row.filter _⟩
      · rw [hh, hs]
        exact (h.inv.ok k).leave tx fun t ht => upd_other ht
      · rw [hh]; exact h.hs k
      · rw [hs]
        show wsOf (rs.queue.filter (notTx tx)) k = _
        rw [wsOf_not, h.ws]
      · obtain ⟨a, b⟩ := hne x hx
        rw [upd_other b]
        exact h.wish x a
      · rw [hh]; exact h.ris x (hne x hx).1
    obtain ⟨h1, h2⟩ := h0.onS w.key
    have hrow : ∀ k, PS.row (goOnS { st with wish := upd st.wish tx none } w.key ⟨(st.row w.key).hs, leaveW (st.row w.key).ws tx⟩) k = upd (upd st.row w.key ⟨(st.row w.key).hs, leaveW (st.row w.key).ws tx⟩) w.key (goP (upd st.wish tx none) (upd st.row w.key ⟨(st.row w.key).hs, leaveW (st.row w.key).ws tx⟩ w.key)) k := fun k => by
      rw [upd_upd, upd_same]
      by_cases e : k = w.key
      · subst e
        rw [upd_same]
        unfold goOnS
        show PS.row { st with rows := upd st.rows w.key (rowO _ _), wish := _ } w.key = _
        have hok := goH_ok ((h.inv.ok w.key).leave (wi' := upd st.wish tx none) tx fun t ht => upd_other ht)
        refine rowO_row (hs := (goP (upd st.wish tx none) ⟨(st.row w.key).hs, leaveW (st.row w.key).ws tx⟩).hs) (ws := (goP (upd st.wish tx none) ⟨(st.row w.key).hs, leaveW (st.row w.key).ws tx⟩).ws) ?_ hok.2.nil
        show upd st.rows w.key _ w.key = _
        rw [upd_same]
        rfl
      · rw [upd_other e]
        show (upd st.rows w.key _ k).getD ⟨[], []⟩ = _
        rw [upd_other e]
        rfl
    refine RelQ.of hI h1 (h2.trans h.wait) hrow fun x hx w' hw' => ?_
    unfold goOnS at hw'
    simp only at hw'
    split at hw'
    · cases hw'
    · exact hw'
end Go.Proofs.Ytnfodidfhnofkaa
