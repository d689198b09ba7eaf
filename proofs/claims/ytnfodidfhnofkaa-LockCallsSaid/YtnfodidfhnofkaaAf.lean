/- LockWaits, LockStrict, LockShares, LockOrder, as mathematics. No program. -/
import Derived.Test.YtnfodidfhnofkaaAc
namespace Go.Proofs.Ytnfodidfhnofkaa

/-! ### LockWaits -/
theorem waits_other {st : PS} (hI : Inv st) {t : Int} {w : PWish} (hw : st.wish t = some w) : ∃ p ∈ (st.row w.key).hs, p.1 ≠ t := by
  have ht := hI.waits hw
  have ok := hI.ok w.key
  have hd := hI.head w.key trivial
  cases hws : (st.row w.key).ws with
  | nil => rw [hws] at ht; cases ht
  | cons h r =>
    have hm := hd h r hws
    have hex : ∃ p ∈ (st.row w.key).hs, p.1 ≠ h := Classical.byContradiction fun hn => by
      have : mayH (st.row w.key).hs h (wantOf st.wish h) = true := mayH_iff.2 fun p hp hne => absurd ⟨p, hp, hne⟩ hn
      rw [hm] at this
      cases this
    by_cases e : h = t
    · subst e; exact hex
    · obtain ⟨p, hp, hpe⟩ := hex
      by_cases e2 : p.1 = t
      · have h0 : howH (st.row w.key).hs t ≠ 0 := by
          have h1 := howH_of_mem ok.nd hp
          have h2 := (ok.rg p hp).2.2
          rw [e2] at h1
          omega
        obtain ⟨A, B, e3, hA, hB⟩ := ok.ris
        cases A with
        | nil =>
          rw [List.nil_append] at e3
          subst e3
          exact absurd (hB t ht) h0
        | cons a A =>
          rw [hws] at e3
          injection e3 with e4 _
          have h5 := hA a List.mem_cons_self
          exact ⟨_, howH_mem h5, by rw [← e4]; exact e⟩
      · exact ⟨p, hp, e2⟩
/-- Does another one than the i-th of those before the n-th hold? -/
def otherB (hs : List (Int × Int)) (l : List Int) (i n : Nat) : Bool := (List.range n).any fun j => j != i && decide (0 < howH hs (l.getD j 0))
theorem otherB_zero (hs : List (Int × Int)) (l : List Int) (i : Nat) : otherB hs l i 0 = false := rfl
theorem otherB_succ (hs : List (Int × Int)) (l : List Int) (i n : Nat) : otherB hs l i (n + 1) = (otherB hs l i n || (n != i && decide (0 < howH hs (l.getD n 0)))) := by
  unfold otherB
  rw [List.range_succ, List.any_append]
  simp
theorem otherB_true {st : PS} (hI : Inv st) {l : List Int} (hl : TxsL st l) {t : Int} {w : PWish} (hw : st.wish t = some w) {i : Nat} (hi : l[i]? = some t) : otherB (st.row w.key).hs l i l.length = true := by
  obtain ⟨p, hp, hne⟩ := waits_other hI hw
  have hin : p.1 ∈ l := (hl.mem p.1).2 ⟨w.key, .inl (List.mem_map.2 ⟨p, hp, rfl⟩)⟩
  obtain ⟨j, hj⟩ := List.getElem?_of_mem hin
  have hjl := (List.getElem?_eq_some_iff.1 hj).1
  have ok := hI.ok w.key
  unfold otherB
  rw [List.any_eq_true]
  refine ⟨j, List.mem_range.2 hjl, ?_⟩
  have e1 : (j != i) = true := by
    simp only [bne_iff_ne, ne_eq]
    rintro rfl
    rw [hi] at hj
    exact hne (Option.some.inj hj).symm
  have e2 : l.getD j 0 = p.1 := by rw [List.getD_eq_getElem?_getD, hj]; rfl
  have h1 := howH_of_mem ok.nd hp
  have h2 := (ok.rg p hp).2.2
  rw [e1, e2, h1]
  simp
  omega
theorem waits_low {st : PS} (hI : Inv st) {t : Int} {w : PWish} (hw : st.wish t = some w) : howH (st.row w.key).hs t ≠ 2 ∧ howH (st.row w.key).hs t < 2 ∧ 1 ≤ t ∧ t ≤ 1048576 := by
  obtain ⟨w', h1, _, h3, h4, h5, h6⟩ := (hI.ok w.key).mem t (hI.waits hw)
  rw [hw] at h1
  cases h1
  exact ⟨by omega, by omega, h5, h6⟩
/-- One that waits asks again for the key. -/
theorem ask_again {st : PS} (hI : Inv st) {t : Int} {w : PWish} (hw : st.wish t = some w) : askS st t w.key true 0 = (st, 17) := by
  obtain ⟨_, h2, h3, h4⟩ := waits_low hI hw
  unfold askS
  rw [if_neg (by simp [badAsk]; omega), if_neg (by simp [wantN]; omega), hw]
  simp

/-! ### LockStrict -/
theorem PS.one : ∀ {a b : PS}, a.wait = b.wait → a.rows = b.rows → a.wish = b.wish → a = b
  | ⟨_, _, _⟩, ⟨_, _, _⟩, rfl, rfl, rfl => rfl
theorem FreeSays.one {st a b : PS} {tx : Int} (h : FreeSays st a tx) (h' : FreeSays st b tx) : a = b := by
  have hr : ∀ k, a.row k = b.row k := fun k => (h.row k).trans (h'.row k).symm
  refine PS.one (h.wait.trans h'.wait.symm) (funext fun k => ?_) (funext fun t => ?_)
  · rw [h.inv.rows_row, h'.inv.rows_row, hr]
  · cases ha : a.wish t with
    | none =>
      cases hb : b.wish t with
      | none => rfl
      | some w =>
        have := h'.inv.waits hb
        rw [← hr] at this
        obtain ⟨w', h1, _⟩ := h.inv.waits_iff.1 this
        rw [ha] at h1
        cases h1
    | some w =>
      have := h.inv.waits ha
      rw [hr] at this
      obtain ⟨w', h1, _⟩ := h'.inv.waits_iff.1 this
      have e1 := h.only t w ha
      have e2 := h'.only t w' h1
      rw [e1] at e2
      cases e2
      exact h1.symm
theorem DoS.one {st a b : PS} {c : PCall} (h : DoS st c a) (h' : DoS st c b) : a = b := by
  rcases h with ⟨e, h⟩ | ⟨e, h⟩ | ⟨e, h⟩ | ⟨e0, e1, e2, h⟩ <;> rcases h' with ⟨f, h'⟩ | ⟨f, h'⟩ | ⟨f, h'⟩ | ⟨f0, f1, f2, h'⟩ <;> first
    | exact h.trans h'.symm
    | exact h.one h'
    | (exfalso; omega)
theorem RunS.one {st a b : PS} {cs : List PCall} (h : RunS st cs a) (h' : RunS st cs b) : a = b := by
  induction h with
  | nil st => cases h'; rfl
  | cons h1 _ ih =>
    cases h' with
    | cons h2 h3 =>
      obtain rfl := h1.one h2
      exact ih h3
theorem RunS.last {cs : List PCall} {c : PCall} : ∀ {st st2 : PS}, RunS st (cs ++ [c]) st2 → ∃ st1, RunS st cs st1 ∧ DoS st1 c st2 := by
  induction cs with
  | nil =>
    intro st st2 h
    cases h with
    | cons h1 h2 => cases h2; exact ⟨_, .nil _, h1⟩
  | cons d cs ih =>
    intro st st2 h
    cases h with
    | cons h1 h2 =>
      obtain ⟨st1, h3, h4⟩ := ih h2
      exact ⟨st1, .cons h1 h3, h4⟩
theorem rowO_hs (hs : List (Int × Int)) (ws : List Int) : ((rowO hs ws).getD ⟨[], []⟩).hs = hs := by
  unfold rowO
  split
  · rename_i e; rw [List.eq_nil_of_length_eq_zero e]; rfl
  · rfl
theorem ask_up {st : PS} (tx' : Int) (k' : KeyT) (ex : Bool) (now tx : Int) (k : KeyT) : howH (st.row k).hs tx ≤ howH ((askS st tx' k' ex now).1.row k).hs tx := by
  unfold askS
  split
  · exact Int.le_refl _
  · split
    · exact Int.le_refl _
    · rename_i hlow
      cases hw : st.wish tx' with
      | some w => exact Int.le_refl _
      | none =>
        simp only
        split
        · by_cases e : k = k'
          · subst e
            show _ ≤ howH ((upd st.rows k _ k).getD ⟨[], []⟩).hs tx
            rw [upd_same]
            exact grant_keeps_up (by omega)
          · show _ ≤ howH ((upd st.rows k' _ k).getD ⟨[], []⟩).hs tx
            rw [upd_other e]
            exact Int.le_refl _
        · by_cases e : k = k'
          · subst e
            show _ ≤ howH ((upd st.rows k _ k).getD ⟨[], []⟩).hs tx
            rw [upd_same]
            exact Int.le_refl _
          · show _ ≤ howH ((upd st.rows k' _ k).getD ⟨[], []⟩).hs tx
            rw [upd_other e]
            exact Int.le_refl _
theorem quit_up {st : PS} (hI : Inv st) (tx' tx : Int) (k : KeyT) : howH (st.row k).hs tx ≤ howH ((quitS st tx').1.row k).hs tx := by
  unfold quitS
  cases hw : st.wish tx' with
  | none => exact Int.le_refl _
  | some w =>
    by_cases e : k = w.key
    · subst e
      show _ ≤ howH ((upd st.rows w.key (rowO _ _) w.key).getD ⟨[], []⟩).hs tx
      rw [upd_same, rowO_hs]
      exact goH_up ((hI.ok w.key).leave tx' fun t ht => upd_other ht) tx
    · show _ ≤ howH ((upd st.rows w.key (rowO _ _) k).getD ⟨[], []⟩).hs tx
      rw [upd_other e]
      exact Int.le_refl _
theorem free_up {st st' : PS} (hI : Inv st) {tx' tx : Int} (h : FreeSays st st' tx') (hne : tx' ≠ tx) (k : KeyT) : howH (st.row k).hs tx ≤ howH (st'.row k).hs tx := by
  rw [h.row k]
  show _ ≤ howH (goH (wantOf st.wish) (releaseH (st.row k).hs tx') (leaveW (st.row k).ws tx')).1 tx
  have h1 := goH_up ((hI.ok k).free (wi' := st.wish) tx' fun t _ => rfl) tx
  rw [howH_release, if_neg (fun e => hne e.symm)] at h1
  exact h1
/-- What is held is held on, but by one that is freed. -/
theorem DoS.up {st st' : PS} (hI : Inv st) {c : PCall} (h : DoS st c st') {tx : Int} (hne : ¬ (c.what = 1 ∧ c.tx = tx)) (k : KeyT) : howH (st.row k).hs tx ≤ howH (st'.row k).hs tx := by
  rcases h with ⟨_, rfl⟩ | ⟨e, h⟩ | ⟨_, rfl⟩ | ⟨_, _, _, rfl⟩
  · exact ask_up _ _ _ _ _ _
  · exact free_up hI h (fun e2 => hne ⟨e, e2⟩) k
  · exact quit_up hI _ _ _
  · exact Int.le_refl _
/-- Who is free holds nothing. -/
theorem free_how {st st' : PS} {tx : Int} (h : FreeSays st st' tx) (k : KeyT) : howH (st'.row k).hs tx = 0 := Classical.byContradiction fun hn =>
  (free_in h (k := k) (t := tx) (.inl (List.mem_map.2 ⟨_, howH_mem hn, rfl⟩))).2 rfl
theorem free_keys {st st' : PS} {tx : Int} (h : FreeSays st st' tx) {l : List KeyT} (hl : KeysL st' (fun r => decide (howH r.hs tx ≠ 0)) l) : l = [] := by
  cases l with
  | nil => rfl
  | cons k l =>
    have := ((hl.mem k).1 List.mem_cons_self).2
    rw [decide_eq_true_iff] at this
    exact absurd (free_how h k) this

/-! ### LockShares -/
/-- All of l, and they alone, share k; no one waits. -/
structure Shd (st : PS) (k : KeyT) (l : List Int) : Prop where
  inv : Inv st
  none : ∀ t, st.wish t = .none
  one : ∀ p ∈ (st.row k).hs, p.2 = 1
  mem : ∀ t, t ∈ (st.row k).hs.map Prod.fst ↔ t ∈ l
theorem Shd.start (wait : Int) (k : KeyT) : Shd (newPS wait) k [] := ⟨Inv.new wait, fun _ => rfl, fun p hp => by simp [newPS, PS.row] at hp, fun t => by simp [newPS, PS.row]⟩
theorem Shd.ws {st : PS} {k : KeyT} {l : List Int} (h : Shd st k l) : (st.row k).ws = [] := by
  cases hws : (st.row k).ws with
  | nil => rfl
  | cons t r =>
    obtain ⟨w, h1, _⟩ := (h.inv.ok k).mem t (by rw [hws]; exact List.mem_cons_self)
    rw [h.none t] at h1
    cases h1
theorem Shd.how {st : PS} {k : KeyT} {l : List Int} (h : Shd st k l) (t : Int) : howH (st.row k).hs t = if t ∈ l then 1 else 0 := by
  split
  · rename_i ht
    obtain ⟨p, hp, rfl⟩ := List.mem_map.1 ((h.mem t).2 ht)
    rw [howH_of_mem (h.inv.ok k).nd hp]
    exact h.one p hp
  · rename_i ht
    exact Classical.byContradiction fun hn => ht ((h.mem t).1 (List.mem_map.2 ⟨_, howH_mem hn, rfl⟩))
theorem Shd.ask {st : PS} {k : KeyT} {l : List Int} (h : Shd st k l) {t : Int} (h1 : 1 ≤ t) (h2 : t ≤ 1048576) : ∃ st', askS st t k false 0 = (st', 0) ∧ Shd st' k (l ++ [t]) ∧ howH (st'.row k).hs t = 1 := by
  have hh := h.how t
  by_cases ht : t ∈ l
  · rw [if_pos ht] at hh
    refine ⟨st, ?_, ⟨h.inv, h.none, h.one, fun x => ?_⟩, hh⟩
    · unfold askS
      rw [if_neg (by simp [badAsk]; omega), if_pos (by simp [wantN, hh])]
    · rw [h.mem x, List.mem_append, List.mem_singleton]
      exact ⟨.inl, fun e => e.elim id fun e => e ▸ ht⟩
  · rw [if_neg ht] at hh
    have hI := ask_inv h.inv t k false 0
    have hno : ∀ p ∈ (st.row k).hs, p.1 ≠ t := fun p hp e => ht ((h.mem t).1 (List.mem_map.2 ⟨p, hp, e⟩))
    have hm : mayH (st.row k).hs t 1 = true := mayH_iff.2 fun p hp _ => ⟨by decide, by rw [h.one p hp]; decide⟩
    have e : askS st t k false 0 = ({ st with rows := upd st.rows k (some ⟨(st.row k).hs ++ [(t, 1)], []⟩) }, 0) := by
      unfold askS
      rw [if_neg (by simp [badAsk]; omega), if_neg (by simp [wantN, hh]), h.none t]
      simp only [wantN, Bool.false_eq_true, if_false]
      rw [hm, h.ws, grant_new hno]
      simp
    rw [e] at hI
    have er : PS.row { st with rows := upd st.rows k (some ⟨(st.row k).hs ++ [(t, 1)], []⟩) } k = ⟨(st.row k).hs ++ [(t, 1)], []⟩ := by
      show (upd st.rows k _ k).getD ⟨[], []⟩ = _
      rw [upd_same]
      rfl
    refine ⟨_, e, ⟨hI, h.none, ?_, ?_⟩, ?_⟩
    · rw [er]
      intro p hp
      rcases List.mem_append.1 hp with hp | hp
      · exact h.one p hp
      · simp at hp; rw [hp]
    · rw [er]
      intro x
      simp only [List.map_append, List.map_cons, List.map_nil, List.mem_append, h.mem x]
    · rw [er]
      have := grant_how_same (st.row k).hs t 1
      rw [grant_new hno] at this
      exact this
def othersN (l : List Int) (tx : Int) : Nat := (l.filter fun t => t != tx).length
theorem othersN_snoc (l : List Int) (tx t : Int) : othersN (l ++ [t]) tx = othersN l tx + (if t = tx then 0 else 1) := by
  unfold othersN
  rw [List.filter_append, List.length_append]
  by_cases e : t = tx <;> simp [e]
theorem othersN_len (l : List Int) (tx : Int) : othersN l tx ≤ l.length := List.length_filter_le _ _
theorem Shd.rise {st : PS} {k : KeyT} {l : List Int} (h : Shd st k l) {tx : Int} (h1 : 1 ≤ tx) (h2 : tx ≤ 1048576) (ho : 0 < othersN l tx) : ∃ st', askS st tx k true 0 = (st', 17) ∧ howH (st'.row k).hs tx < 2 := by
  have hh := h.how tx
  have hh2 : howH (st.row k).hs tx < 2 := by rw [hh]; split <;> decide
  have hm : mayH (st.row k).hs tx 2 = false := by
    cases hm : mayH (st.row k).hs tx 2 with
    | false => rfl
    | true =>
      rw [mayH_iff] at hm
      unfold othersN at ho
      obtain ⟨x, hx⟩ := List.exists_mem_of_length_pos ho
      obtain ⟨a, b⟩ := List.mem_filter.1 hx
      obtain ⟨p, hp, rfl⟩ := List.mem_map.1 ((h.mem x).2 a)
      exact absurd rfl (hm p hp (by simpa using b)).1
  have e : askS st tx k true 0 = ({ st with rows := upd st.rows k (some ⟨(st.row k).hs, queueW (st.row k).hs (st.row k).ws tx⟩), wish := upd st.wish tx (some ⟨k, 2, 0⟩) }, 17) := by
    unfold askS
    rw [if_neg (by simp [badAsk]; omega), if_neg (by simp [wantN]; omega), h.none tx]
    simp only [wantN, if_true]
    rw [hm]
    simp only [Bool.false_and, Bool.false_eq_true, if_false]
  refine ⟨_, e, ?_⟩
  show howH ((upd st.rows k _ k).getD ⟨[], []⟩).hs tx < 2
  rw [upd_same]
  exact hh2
theorem Shd.alone {st : PS} {k : KeyT} {l : List Int} (h : Shd st k l) {tx : Int} (h1 : 1 ≤ tx) (h2 : tx ≤ 1048576) (ho : othersN l tx = 0) : ∃ st', askS st tx k true 0 = (st', 0) ∧ howH (st'.row k).hs tx = 2 := by
  have hh := h.how tx
  have hh2 : howH (st.row k).hs tx < 2 := by rw [hh]; split <;> decide
  have hm : mayH (st.row k).hs tx 2 = true := mayH_iff.2 fun p hp hne => by
    unfold othersN at ho
    rw [List.length_eq_zero_iff, List.filter_eq_nil_iff] at ho
    exact absurd (by simpa using hne) (ho p.1 ((h.mem p.1).1 (List.mem_map.2 ⟨p, hp, rfl⟩)))
  have e : askS st tx k true 0 = ({ st with rows := upd st.rows k (some ⟨grantH (st.row k).hs tx 2, []⟩) }, 0) := by
    unfold askS
    rw [if_neg (by simp [badAsk]; omega), if_neg (by simp [wantN]; omega), h.none tx]
    simp only [wantN, if_true]
    rw [hm, h.ws]
    simp only [List.length_nil, Bool.true_and, decide_true, Bool.or_true, if_true]
  refine ⟨_, e, ?_⟩
  show howH ((upd st.rows k _ k).getD ⟨[], []⟩).hs tx = 2
  rw [upd_same]
  exact grant_how_same _ _ _

/-! ### LockOrder -/
/-- One holds k exclusively; those of the row wait for it so, in order; of other keys there is nothing. -/
structure Ord (st : PS) (k : KeyT) (first : Int) (row : List Int) : Prop where
  inv : Inv st
  row : st.row k = ⟨[(first, 2)], row⟩
  others : ∀ k', k' ≠ k → st.row k' = ⟨[], []⟩
  wish : ∀ t w, st.wish t = some w → w.want = 2
theorem Ord.key {st : PS} {k : KeyT} {first : Int} {row : List Int} (h : Ord st k first row) {t : Int} {w : PWish} (hw : st.wish t = some w) : w.key = k ∧ t ∈ row := by
  have ht := h.inv.waits hw
  by_cases e : w.key = k
  · rw [e, h.row] at ht
    exact ⟨e, ht⟩
  · rw [h.others _ e] at ht
    cases ht
theorem Ord.ok {st : PS} {k : KeyT} {first : Int} {row : List Int} (h : Ord st k first row) : RowOK st.wish k [(first, 2)] row := by
  have := h.inv.ok k
  rw [h.row] at this
  exact this
theorem Ord.nd {st : PS} {k : KeyT} {first : Int} {row : List Int} (h : Ord st k first row) : (first :: row).Nodup := by
  refine List.nodup_cons.2 ⟨fun hm => ?_, h.ok.wnd⟩
  obtain ⟨w, _, _, h3, h4, _⟩ := h.ok.mem first hm
  simp [howH] at h3
  omega
theorem how_one (x t : Int) : howH [(x, 2)] t = if x = t then 2 else 0 := by simp [howH]
theorem ord_start (wait : Int) (k : KeyT) {first : Int} (h1 : 1 ≤ first) (h2 : first ≤ 1048576) : ∃ st', askS (newPS wait) first k true 0 = (st', 0) ∧ Ord st' k first [] := by
  have hI := ask_inv (Inv.new wait) first k true 0
  have e : askS (newPS wait) first k true 0 = ({ newPS wait with rows := upd (newPS wait).rows k (some ⟨[(first, 2)], []⟩) }, 0) := by
    have er : (newPS wait).row k = ⟨[], []⟩ := rfl
    unfold askS
    rw [if_neg (by simp [badAsk]; omega), er, if_neg (by simp [wantN, howH])]
    simp [newPS, wantN, mayH, howH, grantH]
  rw [e] at hI
  refine ⟨_, e, hI, ?_, fun k' hk => ?_, fun t w hw => ?_⟩
  · show (upd (newPS wait).rows k _ k).getD ⟨[], []⟩ = _
    rw [upd_same]
    rfl
  · show (upd (newPS wait).rows k _ k').getD ⟨[], []⟩ = _
    rw [upd_other hk]
    rfl
  · simp [newPS] at hw
/-- One asks for k exclusively. -/
theorem Ord.bad {st : PS} {k : KeyT} {n now : Int} (h : n < 1 ∨ 1048576 < n) : askS st n k true now = (st, 11) := by
  unfold askS
  rw [if_pos (by simp only [badAsk, Bool.or_eq_true, decide_eq_true_eq]; omega)]
theorem Ord.self {st : PS} {k : KeyT} {first : Int} {row : List Int} (h : Ord st k first row) {now : Int} (h1 : 1 ≤ first) (h2 : first ≤ 1048576) (h3 : 0 ≤ now) (h4 : now ≤ 1000) : askS st first k true now = (st, 0) := by
  unfold askS
  rw [if_neg (by simp only [badAsk, Bool.or_eq_true, decide_eq_true_eq]; omega), h.row, if_pos (by simp [wantN, howH])]
theorem Ord.known {st : PS} {k : KeyT} {first : Int} {row : List Int} (h : Ord st k first row) {n now : Int} (h1 : 1 ≤ n) (h2 : n ≤ 1048576) (h3 : 0 ≤ now) (h4 : now ≤ 1000) (hn : n ∈ row) : askS st n k true now = (st, 17) := by
  have hne : first ≠ n := fun e => (List.nodup_cons.1 h.nd).1 (e ▸ hn)
  obtain ⟨w, hw, _⟩ := h.ok.mem n hn
  unfold askS
  rw [if_neg (by simp only [badAsk, Bool.or_eq_true, decide_eq_true_eq]; omega), h.row, if_neg (by simp [wantN, howH, hne]), hw]
  simp [(h.key hw).1]
theorem Ord.more {st : PS} {k : KeyT} {first : Int} {row : List Int} (h : Ord st k first row) {n now : Int} (h1 : 1 ≤ n) (h2 : n ≤ 1048576) (h3 : 0 ≤ now) (h4 : now ≤ 1000) (hn : n ∉ row) (hne : n ≠ first) : ∃ st', askS st n k true now = (st', 17) ∧ Ord st' k first (row ++ [n]) := by
  have hI := ask_inv h.inv n k true now
  have hne' : ¬ first = n := fun e => hne e.symm
  have hw : st.wish n = none := by
    cases hw : st.wish n with
    | none => rfl
    | some w => exact absurd (h.key hw).2 hn
  have e : askS st n k true now = ({ st with rows := upd st.rows k (some ⟨[(first, 2)], row ++ [n]⟩), wish := upd st.wish n (some ⟨k, 2, now⟩) }, 17) := by
    unfold askS
    rw [if_neg (by simp only [badAsk, Bool.or_eq_true, decide_eq_true_eq]; omega), h.row, if_neg (by simp [wantN, howH, hne']), hw]
    have hm : mayH [(first, 2)] n 2 = false := by simp [mayH, hne']
    have hq : queueW [(first, 2)] row n = row ++ [n] := by
      unfold queueW queueAt
      rw [if_pos (by simp [howH, hne'])]
      simp
    simp only [wantN, if_true]
    rw [hm, hq]
    simp
  rw [e] at hI
  refine ⟨_, e, hI, ?_, fun k' hk => ?_, fun t w ht => ?_⟩
  · show (upd st.rows k _ k).getD ⟨[], []⟩ = _
    rw [upd_same]
    rfl
  · show (upd st.rows k _ k').getD ⟨[], []⟩ = _
    rw [upd_other hk]
    exact h.others k' hk
  · by_cases e : t = n
    · subst e
      simp only [upd_same, Option.some.injEq] at ht
      subst ht
      rfl
    · simp only [upd_other e] at ht
      exact h.wish t w ht
theorem leave_not {ws : List Int} {tx : Int} (h : tx ∉ ws) : leaveW ws tx = ws := List.filter_eq_self.2 fun t ht => by simp; rintro rfl; exact h ht
theorem Ord.want {st : PS} {k : KeyT} {first : Int} {row : List Int} (h : Ord st k first row) {t : Int} (ht : t ∈ row) : wantOf st.wish t = 2 := by
  obtain ⟨w, hw, _⟩ := h.ok.mem t ht
  simp [wantOf, hw, h.wish t w hw]
theorem Ord.off {st st' : PS} {k : KeyT} {first : Int} {row : List Int} (h : Ord st k first row) (hf : FreeSays st st' first) {k' : KeyT} (hk : k' ≠ k) : st'.row k' = ⟨[], []⟩ := by
  rw [hf.row k']
  unfold freeR goF
  rw [h.others k' hk]
  rfl
/-- The one that holds is freed: the first one that waits holds. -/
theorem Ord.next {st st' : PS} {k : KeyT} {first x : Int} {row : List Int} (h : Ord st k first (x :: row)) (hf : FreeSays st st' first) : Ord st' k x row := by
  have hnd := List.nodup_cons.1 h.nd
  have hnd2 := List.nodup_cons.1 hnd.2
  refine ⟨hf.inv, ?_, fun k' hk => h.off hf hk, fun t w hw => h.wish t w (hf.only t w hw)⟩
  rw [hf.row k]
  unfold freeR goF
  rw [h.row]
  show PRow.mk (goH _ (releaseH [(first, 2)] first) (leaveW (x :: row) first)).1 (goH _ (releaseH [(first, 2)] first) (leaveW (x :: row) first)).2 = _
  rw [leave_not hnd.1]
  have e : releaseH [(first, 2)] first = [] := by simp [releaseH]
  have e2 : goH (wantOf st.wish) [] (x :: row) = ([(x, 2)], row) := by
    unfold goH
    rw [h.want List.mem_cons_self]
    rw [if_pos (by rfl)]
    show goH _ [(x, 2)] row = _
    cases row with
    | nil => rfl
    | cons y row =>
      unfold goH
      rw [h.want (by simp)]
      rw [if_neg]
      have : x ≠ y := fun e => hnd2.1 (e ▸ List.mem_cons_self)
      simp [mayH, this]
  rw [e, e2]
theorem Ord.end {st st' : PS} {k : KeyT} {first : Int} (h : Ord st k first []) (hf : FreeSays st st' first) (k' : KeyT) : st'.row k' = ⟨[], []⟩ := by
  by_cases hk : k' = k
  · subst hk
    rw [hf.row k']
    unfold freeR goF
    rw [h.row]
    show PRow.mk (goH _ (releaseH [(first, 2)] first) (leaveW [] first)).1 (goH _ (releaseH [(first, 2)] first) (leaveW [] first)).2 = _
    have e : releaseH [(first, 2)] first = [] := by simp [releaseH]
    rw [e]
    rfl
  · exact h.off hf hk
end Go.Proofs.Ytnfodidfhnofkaa
