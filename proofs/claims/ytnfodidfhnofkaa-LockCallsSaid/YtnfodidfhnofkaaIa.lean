/- The document's own table of locks as mathematics, and how it goes with the table of rows. No program. -/
import Derived.Test.YtnfodidfhnofkaaBd
namespace Go.Proofs.Ytnfodidfhnofkaa

structure RHold where
  tx : Int
  key : KeyT
  ex : Bool
  since : Int
  rises : Bool
structure RS where
  wait : Int
  holds : List RHold
  queue : List RHold
def ofKey (k : KeyT) (h : RHold) : Bool := decide (h.key = k)
def pairOf (h : RHold) : Int × Int := (h.tx, wantN h.ex)
def hsOf (l : List RHold) (k : KeyT) : List (Int × Int) := (l.filter (ofKey k)).map pairOf
def wsOf (l : List RHold) (k : KeyT) : List Int := (l.filter (ofKey k)).map RHold.tx
def isQ (tx : Int) (k : KeyT) (h : RHold) : Bool := (h.tx == tx) && decide (h.key = k)
def howQ : List RHold → Int → KeyT → Int
  | [], _, _ => 0
  | h :: t, tx, k => if isQ tx k h then wantN h.ex else howQ t tx k
def againstQ (w h : RHold) : Bool := decide (h.key = w.key) && ((h.tx != w.tx) && (h.ex || w.ex))
def mayQ (hs : List RHold) (w : RHold) : Bool := !(hs.any (againstQ w))
def grantQ : List RHold → RHold → List RHold
  | [], w => [w]
  | h :: t, w => if isQ w.tx w.key h then { h with ex := true } :: t else h :: grantQ t w
def waitsQ : List RHold → Int → Option KeyT
  | [], _ => none
  | h :: t, tx => if h.tx = tx then some h.key else waitsQ t tx
def newQ (wait : Int) : RS := ⟨wait, [], []⟩
def aloneQ (q : List RHold) (k : KeyT) : Bool := q.all fun h => !(ofKey k h)
def atQ (q : List RHold) (rises : Bool) : Nat := if rises then placeOf (fun h => !h.rises) q else q.length
def askQ (rs : RS) (tx : Int) (k : KeyT) (ex : Bool) (now : Int) : RS × Int :=
  if badAsk tx now then (rs, 11)
  else if wantN ex ≤ howQ rs.holds tx k then (rs, 0)
  else match waitsQ rs.queue tx with
    | some k' => (rs, if k' = k then 17 else 13)
    | none =>
      if mayQ rs.holds ⟨tx, k, ex, now, decide (howQ rs.holds tx k = 1)⟩ && (aloneQ rs.queue k || decide (howQ rs.holds tx k = 1)) then
        ({ rs with holds := grantQ rs.holds ⟨tx, k, ex, now, decide (howQ rs.holds tx k = 1)⟩ }, 0)
      else ({ rs with queue := rs.queue.take (atQ rs.queue (decide (howQ rs.holds tx k = 1))) ++ ⟨tx, k, ex, now, decide (howQ rs.holds tx k = 1)⟩ :: rs.queue.drop (atQ rs.queue (decide (howQ rs.holds tx k = 1))) }, 17)
/-- A key goes on, as long as the fuel lasts. -/
def onQ (k : KeyT) : Nat → RS → RS
  | 0, rs => rs
  | f + 1, rs => match rs.queue[placeOf (ofKey k) rs.queue]? with
    | none => rs
    | some w => if mayQ rs.holds w then onQ k f { rs with holds := grantQ rs.holds w, queue := rs.queue.take (placeOf (ofKey k) rs.queue) ++ rs.queue.drop (placeOf (ofKey k) rs.queue + 1) } else rs
def onQS (k : KeyT) (rs : RS) : RS := onQ k rs.queue.length rs
def notTx (tx : Int) (h : RHold) : Bool := h.tx != tx
def quitQ (rs : RS) (tx : Int) : RS × Bool :=
  match waitsQ rs.queue tx with
  | none => (rs, false)
  | some k => (onQS k { rs with queue := rs.queue.filter (notTx tx) }, true)
def freeQ (rs : RS) (tx : Int) (ks : List KeyT) : RS := ks.foldl (fun r k => onQS k r) { rs with holds := rs.holds.filter (notTx tx), queue := rs.queue.filter (notTx tx) }

/-! ### by keys -/
theorem hsOf_nil (k : KeyT) : hsOf [] k = [] := rfl
theorem hsOf_cons (h : RHold) (l : List RHold) (k : KeyT) : hsOf (h :: l) k = if h.key = k then pairOf h :: hsOf l k else hsOf l k := by
  unfold hsOf
  by_cases e : h.key = k <;> simp [ofKey, e]
theorem wsOf_cons (h : RHold) (l : List RHold) (k : KeyT) : wsOf (h :: l) k = if h.key = k then h.tx :: wsOf l k else wsOf l k := by
  unfold wsOf
  by_cases e : h.key = k <;> simp [ofKey, e]
theorem hsOf_append (a b : List RHold) (k : KeyT) : hsOf (a ++ b) k = hsOf a k ++ hsOf b k := by simp [hsOf]
theorem wsOf_append (a b : List RHold) (k : KeyT) : wsOf (a ++ b) k = wsOf a k ++ wsOf b k := by simp [wsOf]
theorem howQ_is : ∀ (l : List RHold) (tx : Int) (k : KeyT), howQ l tx k = howH (hsOf l k) tx
  | [], _, _ => rfl
  | h :: l, tx, k => by
    rw [hsOf_cons]
    unfold howQ isQ
    by_cases e : h.key = k
    · rw [if_pos e]
      by_cases e2 : h.tx = tx
      · simp [e, e2, howH, pairOf]
      · simp [e, e2, howH, pairOf, howQ_is l tx k]
    · rw [if_neg e]
      simp [e, howQ_is l tx k]
theorem wantN_2 (ex : Bool) : (wantN ex == 2) = ex := by cases ex <;> rfl
theorem mayQ_is : ∀ (l : List RHold) (w : RHold), mayQ l w = mayH (hsOf l w.key) w.tx (wantN w.ex)
  | [], w => rfl
  | h :: l, w => by
    have ih := mayQ_is l w
    unfold mayQ mayH at ih ⊢
    rw [hsOf_cons, List.any_cons]
    have ih2 := Bool.not_inj ih
    by_cases e : h.key = w.key
    · rw [if_pos e, List.any_cons, ih2]
      have : againstQ w h = ((pairOf h).1 != w.tx && (wantN w.ex == 2 || (pairOf h).2 == 2)) := by
        unfold againstQ pairOf
        simp only [wantN_2, e, decide_true, Bool.true_and]
        rw [Bool.or_comm]
      rw [this]
    · rw [if_neg e, ih2]
      have : againstQ w h = false := by unfold againstQ; simp [e]
      rw [this, Bool.false_or]
theorem grantQ_same : ∀ (l : List RHold) (w : RHold), howH (hsOf l w.key) w.tx < wantN w.ex → hsOf (grantQ l w) w.key = grantH (hsOf l w.key) w.tx (wantN w.ex)
  | [], w, _ => by simp [grantQ, hsOf_cons, hsOf_nil, grantH, pairOf]
  | h :: l, w, hlt => by
    rw [hsOf_cons] at hlt ⊢
    unfold grantQ isQ
    by_cases e : h.key = w.key
    · rw [if_pos e] at hlt ⊢
      by_cases e2 : h.tx = w.tx
      · simp only [howH, pairOf, e2, if_true] at hlt
        have hx : w.ex = true := by
          cases hw : w.ex with
          | true => rfl
          | false => rw [hw] at hlt; cases he : h.ex <;> rw [he] at hlt <;> simp [wantN] at hlt
        simp [e, e2, hsOf_cons, grantH, pairOf, hx]
      · have hlt' : howH (hsOf l w.key) w.tx < wantN w.ex := by
          unfold howH at hlt
          rw [if_neg (by simpa [pairOf] using e2)] at hlt
          exact hlt
        have ih := grantQ_same l w hlt'
        have e3 : ((h.tx == w.tx) && decide (h.key = w.key)) = false := by simp [e2]
        rw [e3]
        simp only [Bool.false_eq_true, if_false]
        rw [hsOf_cons, if_pos e, ih]
        unfold grantH
        rw [if_neg (show ¬ (pairOf h).1 = w.tx from e2)]
        cases hsOf l w.key <;> rfl
    · rw [if_neg e] at hlt ⊢
      have e3 : ((h.tx == w.tx) && decide (h.key = w.key)) = false := by simp [e]
      rw [e3]
      simp only [Bool.false_eq_true, if_false]
      rw [hsOf_cons, if_neg e]
      exact grantQ_same l w hlt
theorem grantQ_other : ∀ (l : List RHold) (w : RHold) {k : KeyT}, k ≠ w.key → hsOf (grantQ l w) k = hsOf l k
  | [], w, k, hk => by simp [grantQ, hsOf_cons, hsOf_nil, Ne.symm hk]
  | h :: l, w, k, hk => by
    unfold grantQ
    cases hq : isQ w.tx w.key h with
    | true =>
      have e : h.key = w.key := by simp [isQ] at hq; exact hq.2
      simp only [if_true]
      rw [hsOf_cons, hsOf_cons]
      have : ¬ h.key = k := fun e2 => hk (e2.symm.trans e)
      rw [if_neg this, if_neg this]
    | false =>
      simp only [Bool.false_eq_true, if_false]
      rw [hsOf_cons, hsOf_cons, grantQ_other l w hk]

/-! ### the two tables -/
structure RelQ (st : PS) (rs : RS) : Prop where
  inv : Inv st
  wait : rs.wait = st.wait
  hs : ∀ k, hsOf rs.holds k = (st.row k).hs
  ws : ∀ k, wsOf rs.queue k = (st.row k).ws
  wish : ∀ h ∈ rs.queue, st.wish h.tx = some ⟨h.key, wantN h.ex, h.since⟩
  ris : ∀ h ∈ rs.queue, h.rises = decide (howH (st.row h.key).hs h.tx ≠ 0)
  row : rs.queue.Pairwise fun a b => b.rises = true → a.rises = true
theorem RelQ.new (wait : Int) : RelQ (newPS wait) (newQ wait) :=
  ⟨Inv.new wait, rfl, fun _ => rfl, fun _ => rfl, (fun h hh => by cases hh), (fun h hh => by cases hh), List.Pairwise.nil⟩
theorem RelQ.how {st : PS} {rs : RS} (h : RelQ st rs) (tx : Int) (k : KeyT) : howQ rs.holds tx k = howH (st.row k).hs tx := by rw [howQ_is, h.hs]
theorem mem_wsOf {l : List RHold} {k : KeyT} {t : Int} : t ∈ wsOf l k ↔ ∃ h ∈ l, h.key = k ∧ h.tx = t := by
  unfold wsOf ofKey
  simp only [List.mem_map, List.mem_filter, decide_eq_true_eq]
  exact ⟨fun ⟨h, ⟨a, b⟩, c⟩ => ⟨h, a, b, c⟩, fun ⟨h, a, b, c⟩ => ⟨h, ⟨a, b⟩, c⟩⟩
theorem waitsQ_some {l : List RHold} {tx : Int} {k : KeyT} (h : waitsQ l tx = some k) : ∃ x ∈ l, x.tx = tx ∧ x.key = k := by
  induction l with
  | nil => cases h
  | cons y l ih =>
    unfold waitsQ at h
    split at h
    · rename_i e
      exact ⟨y, List.mem_cons_self, e, Option.some.inj h⟩
    · obtain ⟨x, a, b⟩ := ih h
      exact ⟨x, List.mem_cons_of_mem _ a, b⟩
theorem waitsQ_none {l : List RHold} {tx : Int} (h : waitsQ l tx = none) : ∀ x ∈ l, x.tx ≠ tx := by
  induction l with
  | nil => exact fun x hx => by cases hx
  | cons y l ih =>
    unfold waitsQ at h
    split at h
    · cases h
    · rename_i e
      intro x hx
      rcases List.mem_cons.1 hx with rfl | hx
      · exact e
      · exact ih h x hx
theorem RelQ.in_queue {st : PS} {rs : RS} (h : RelQ st rs) {t : Int} {p : PWish} (hp : st.wish t = some p) : ∃ x ∈ rs.queue, x.tx = t ∧ x.key = p.key := by
  have := h.inv.waits hp
  rw [← h.ws] at this
  obtain ⟨x, a, b, c⟩ := mem_wsOf.1 this
  exact ⟨x, a, c, b⟩
theorem RelQ.waits {st : PS} {rs : RS} (h : RelQ st rs) (tx : Int) : waitsQ rs.queue tx = (st.wish tx).map PWish.key := by
  cases hq : waitsQ rs.queue tx with
  | some k =>
    obtain ⟨x, a, rfl, rfl⟩ := waitsQ_some hq
    rw [h.wish x a]
    rfl
  | none =>
    cases hp : st.wish tx with
    | none => rfl
    | some p =>
      obtain ⟨x, a, b, _⟩ := h.in_queue hp
      exact absurd b (waitsQ_none hq x a)
theorem RelQ.alone {st : PS} {rs : RS} (h : RelQ st rs) (k : KeyT) : aloneQ rs.queue k = decide ((st.row k).ws.length = 0) := by
  rw [← h.ws]
  unfold aloneQ wsOf
  rw [List.length_map]
  by_cases e : (rs.queue.filter (ofKey k)).length = 0
  · rw [decide_eq_true e]
    have := List.filter_eq_nil_iff.1 (List.eq_nil_of_length_eq_zero e)
    exact List.all_eq_true.2 fun x hx => by simpa using this x hx
  · rw [decide_eq_false e]
    cases ha : (rs.queue.all fun h => !(ofKey k h)) with
    | false => rfl
    | true =>
      refine absurd (List.length_eq_zero_iff.2 (List.filter_eq_nil_iff.2 fun x hx => ?_)) e
      simpa using List.all_eq_true.1 ha x hx
theorem nofst_filter {l : List RHold} {k : KeyT} {p : RHold → Bool} : hsOf (l.filter p) k = ((l.filter (ofKey k)).filter p).map pairOf := by
  unfold hsOf
  rw [List.filter_filter, List.filter_filter]
  congr 2
  funext x
  exact Bool.and_comm _ _
theorem hsOf_not (l : List RHold) (tx : Int) (k : KeyT) : hsOf (l.filter (notTx tx)) k = releaseH (hsOf l k) tx := by
  induction l with
  | nil => rfl
  | cons h l ih =>
    rw [List.filter_cons, hsOf_cons]
    unfold releaseH at ih ⊢
    by_cases e : h.tx = tx
    · rw [if_neg (by simp [notTx, e]), ih]
      split
      · rw [List.filter_cons, if_neg (by simp [pairOf, e])]
      · rfl
    · rw [if_pos (by simp [notTx, e]), hsOf_cons, ih]
      split
      · rw [List.filter_cons, if_pos (by simp [pairOf, e])]
      · rfl
theorem wsOf_not (l : List RHold) (tx : Int) (k : KeyT) : wsOf (l.filter (notTx tx)) k = leaveW (wsOf l k) tx := by
  induction l with
  | nil => rfl
  | cons h l ih =>
    rw [List.filter_cons, wsOf_cons]
    unfold leaveW at ih ⊢
    by_cases e : h.tx = tx
    · rw [if_neg (by simp [notTx, e]), ih]
      split
      · rw [List.filter_cons, if_neg (by simp [e])]
      · rfl
    · rw [if_pos (by simp [notTx, e]), wsOf_cons, ih]
      split
      · rw [List.filter_cons, if_pos (by simp [e])]
      · rfl
end Go.Proofs.Ytnfodidfhnofkaa
