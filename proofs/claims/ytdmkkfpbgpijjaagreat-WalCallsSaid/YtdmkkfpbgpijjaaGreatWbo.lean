/- What wal.Open finds on a disk, said in the order in which the program looks for it. No program. wal: sectors in memory; what stands at each place (sectorsOf), the one with the greatest number (lastOf). -/
import Derived.Test.YtdmkkfpbgpijjaaGreatWbf
import Derived.Test.YtdmkkfpbgpijjaaGreatWbn
namespace Go.Proofs.YtdmkkfpbgpijjaaGreat
set_option linter.unusedVariables false

def zS : Sec := ⟨0, 0, [], false⟩
theorem zS_ok : okS zS := ⟨by decide, by decide, by decide, fun z hz => by cases hz⟩
/-- What stands at a place; nought, where it is no log's. -/
def thereS (S : List (List Int)) (i : Nat) : Sec := match readS (secAt S i) with
  | some s => if 1 ≤ s.n ∧ placeOf S.length s.n = i then s else zS
  | none => zS
theorem thereS_n (S : List (List Int)) (i : Nat) : (thereS S i).n = counts S i := by
  unfold thereS counts
  cases readS (secAt S i) with
  | none => rfl
  | some s => simp only; split <;> rfl
theorem secN_there (S : List (List Int)) (n : Nat) (h1 : 1 ≤ n) : secN S n = if (thereS S (placeOf S.length n)).n = n then some (thereS S (placeOf S.length n)) else none := by
  unfold secN thereS
  cases readS (secAt S (placeOf S.length n)) with
  | none => simp only; rw [if_neg (by show ¬ (0 = n); omega)]
  | some s =>
    simp only
    by_cases h : s.n = n
    · have hc : 1 ≤ s.n ∧ placeOf S.length s.n = placeOf S.length n := ⟨by omega, by rw [h]⟩
      simp only [if_pos h, if_pos hc]
    · rw [if_neg h]
      by_cases hc : 1 ≤ s.n ∧ placeOf S.length s.n = placeOf S.length n
      · simp only [if_pos hc, if_neg h]
      · simp only [if_neg hc]
        rw [if_neg (by show ¬ (0 = n); omega)]
def thereL (S : List (List Int)) : List Sec := (List.range S.length).map (thereS S)
theorem thereL_len (S : List (List Int)) : (thereL S).length = S.length := by simp [thereL]
theorem thereL_at (S : List (List Int)) (i : Nat) (h : i < S.length) : (thereL S)[i]? = some (thereS S i) := by simp [thereL, h]

/-- The sector with the greatest number, of the first k. -/
def lastL (ss : List Sec) : Sec := ss.foldl (fun a s => if a.n < s.n then s else a) zS
theorem lastL_snoc (ss : List Sec) (s : Sec) : lastL (ss ++ [s]) = if (lastL ss).n < s.n then s else lastL ss := by
  unfold lastL; rw [List.foldl_append]; rfl
theorem lastL_from (ss : List Sec) : lastL ss = zS ∨ lastL ss ∈ ss := by
  suffices h : ∀ rs : List Sec, lastL rs.reverse = zS ∨ lastL rs.reverse ∈ rs.reverse by
    have := h ss.reverse
    rwa [List.reverse_reverse] at this
  intro rs
  induction rs with
  | nil => exact .inl rfl
  | cons s rs ih =>
    rw [List.reverse_cons, lastL_snoc]
    split
    · exact .inr (by simp)
    · rcases ih with h | h
      · exact .inl h
      · exact .inr (List.mem_append_left _ h)
theorem lastL_there (S : List (List Int)) : ∀ k, k ≤ S.length → (lastL ((thereL S).take k)).n = lastUpto S k := by
  intro k
  induction k with
  | zero => intro _; rfl
  | succ k ih =>
    intro hk
    have hl : k < (thereL S).length := by rw [thereL_len]; omega
    have e : (thereL S)[k] = thereS S k := by simp [thereL]
    rw [List.take_succ_eq_append_getElem hl, lastL_snoc, e, lastUpto]
    have h1 := ih (by omega)
    have h2 := thereS_n S k
    split <;> omega
theorem lastL_n (S : List (List Int)) : (lastL (thereL S)).n = lastN S := by
  have := lastL_there S S.length (Nat.le_refl _)
  rw [List.take_of_length_le (by rw [thereL_len]; exact Nat.le_refl _)] at this
  exact this
theorem secN_last (S : List (List Int)) (h : lastN S ≠ 0) : secN S (lastN S) = some (lastL (thereL S)) := by
  have hn := lastL_n S
  rcases lastL_from (thereL S) with e | e
  · rw [e] at hn; exact absurd hn.symm h
  · obtain ⟨i, hi⟩ := List.mem_iff_getElem?.1 e
    have hil : i < S.length := by
      rcases Nat.lt_or_ge i S.length with x | x
      · exact x
      · rw [List.getElem?_eq_none (by rw [thereL_len]; exact x)] at hi; cases hi
    rw [thereL_at S i hil] at hi
    injection hi with hi
    have hp : placeOf S.length (lastN S) = i := by
      have hn2 : (thereS S i).n = lastN S := by rw [hi]; exact hn
      unfold thereS at hn2
      cases hr : readS (secAt S i) with
      | none => rw [hr] at hn2; exact absurd hn2.symm h
      | some s =>
        rw [hr] at hn2
        simp only at hn2
        split at hn2
        · rename_i hc; rw [← hn2]; exact hc.2
        · exact absurd hn2.symm h
    rw [secN_there S _ (by omega), hp, hi, if_pos hn]

/-- The k sectors from number f on, if they are there. -/
def cntF (ss : List Sec) (f : Nat) : Nat → Option (List Sec)
  | 0 => some []
  | k + 1 => match cntF ss f k with
    | some cs => if (ss[placeOf ss.length (f + k)]?.getD zS).n = f + k then some (cs ++ [ss[placeOf ss.length (f + k)]?.getD zS]) else none
    | none => none
theorem cntF_more (ss : List Sec) (f k : Nat) (h : cntF ss f k = none) : ∀ j, cntF ss f (k + j) = none := by
  intro j
  induction j with
  | zero => exact h
  | succ j ih => rw [← Nat.add_assoc, cntF, ih]
theorem cntF_len (ss : List Sec) (f : Nat) : ∀ k cs, cntF ss f k = some cs → cs.length = k := by
  intro k
  induction k with
  | zero => intro cs h; injection h with h; rw [← h]; rfl
  | succ k ih =>
    intro cs h
    rw [cntF] at h
    cases hk : cntF ss f k with
    | none => rw [hk] at h; cases h
    | some c0 =>
      rw [hk] at h
      simp only at h
      split at h
      · injection h with h; rw [← h, List.length_append, ih c0 hk]; rfl
      · cases h
theorem cntF_at (ss : List Sec) (f : Nat) : ∀ k cs, cntF ss f k = some cs → ∀ i, i < k → (ss[placeOf ss.length (f + i)]?.getD zS).n = f + i := by
  intro k
  induction k with
  | zero => intro cs h i hi; omega
  | succ k ih =>
    intro cs h i hi
    rw [cntF] at h
    cases hk : cntF ss f k with
    | none => rw [hk] at h; cases h
    | some c0 =>
      rw [hk] at h
      simp only at h
      split at h
      · rename_i hn
        rcases Nat.lt_or_ge i k with x | x
        · exact ih c0 hk i x
        · obtain rfl : i = k := by omega
          exact hn
      · cases h
theorem cntF_mem (ss : List Sec) (f : Nat) (hf : 1 ≤ f) : ∀ k cs, cntF ss f k = some cs → ∀ c ∈ cs, c ∈ ss := by
  intro k
  induction k with
  | zero => intro cs h c hc; injection h with h; rw [← h] at hc; cases hc
  | succ k ih =>
    intro cs h c hc
    rw [cntF] at h
    cases hk : cntF ss f k with
    | none => rw [hk] at h; cases h
    | some c0 =>
      rw [hk] at h
      simp only at h
      split at h
      · rename_i hn
        injection h with h
        rw [← h, List.mem_append] at hc
        rcases hc with hc | hc
        · exact ih c0 hk c hc
        · rw [List.mem_singleton] at hc
          rw [hc]
          cases hx : ss[placeOf ss.length (f + k)]? with
          | none => rw [hx] at hn; exact absurd hn (by show ¬ (0 = f + k); omega)
          | some x => exact List.mem_of_getElem? hx
      · cases h
theorem cntF_le (ss : List Sec) (f k : Nat) (cs : List Sec) (hN : 0 < ss.length) (hf : 1 ≤ f) (h : cntF ss f k = some cs) : k ≤ ss.length := by
  rcases Nat.lt_or_ge ss.length k with x | x
  · have h0 := cntF_at ss f k cs h 0 (by omega)
    have h1 := cntF_at ss f k cs h ss.length x
    have e : placeOf ss.length (f + ss.length) = placeOf ss.length (f + 0) := by
      unfold placeOf
      rw [show f + ss.length - 1 = f + 0 - 1 + ss.length by omega, Nat.add_mod_right]
    rw [e] at h1
    omega
  · exact x
theorem secsFrom_there (S : List (List Int)) (f : Nat) (hf : 1 ≤ f) (hN : 0 < S.length) : ∀ k, secsFrom S f k = cntF (thereL S) f k := by
  intro k
  induction k with
  | zero => rfl
  | succ k ih =>
    have hp : placeOf S.length (f + k) < S.length := placeOf_lt _ _ hN
    rw [secsFrom, cntF, ih, secN_there S (f + k) (by omega), thereL_len, thereL_at S _ hp, Option.getD_some]
    cases cntF (thereL S) f k with
    | none => rfl
    | some cs =>
      by_cases h : (thereS S (placeOf S.length (f + k))).n = f + k
      · simp only [h, if_true]
      · simp only [h, if_false]

/-- The rows: the first sector begins one, whatever it tells. -/
def rowsP : List Sec → List (List Int)
  | [] => []
  | s :: ss => rowsAcc s.data ss
def tellP (cs : List Sec) : Option (List RecD) := if (rowsP cs).all rowOK then some ((rowsP cs).flatMap recsL) else none
theorem tellP_eq (cs : List Sec) : tellP cs = tellR cs := by
  unfold tellP tellR
  cases cs with
  | nil => simp [rowsP, rowsAcc, row_nil.1, row_nil.2]
  | cons s cs =>
    cases hb : s.beg
    · have e : rowsAcc [] (s :: cs) = rowsP (s :: cs) := by simp [rowsAcc, rowsP, hb]
      rw [e]
    · have e : rowsAcc [] (s :: cs) = [] :: rowsP (s :: cs) := by simp [rowsAcc, rowsP, hb]
      rw [e, List.all_cons, row_nil.2, Bool.true_and, List.flatMap_cons, row_nil.1, List.nil_append]
theorem rowsAcc_plain (xs rest : List Sec) (hx : ∀ x ∈ xs, x.beg = false) : ∀ cur, rowsAcc cur (xs ++ rest) = rowsAcc (cur ++ xs.flatMap (·.data)) rest := by
  induction xs with
  | nil => intro cur; simp
  | cons x xs ih =>
    intro cur
    have hb := hx x List.mem_cons_self
    rw [List.cons_append, rowsAcc, hb, if_neg (by decide), ih (fun y hy => hx y (List.mem_cons_of_mem _ hy)), List.flatMap_cons, List.append_assoc]
/-- The length of the first row. -/
structure RowN (cs : List Sec) (n : Nat) : Prop where
  one : 1 ≤ n
  le : n ≤ cs.length
  plain : ∀ i c, 1 ≤ i → i < n → cs[i]? = some c → c.beg = false
  stop : ∀ c, cs[n]? = some c → c.beg = true
theorem rowsP_row (cs : List Sec) (n : Nat) (h : RowN cs n) : rowsP cs = (cs.take n).flatMap (·.data) :: rowsP (cs.drop n) := by
  cases cs with
  | nil => exact absurd h.le (by have := h.one; simp; omega)
  | cons s cs =>
    obtain ⟨m, rfl⟩ : ∃ m, n = m + 1 := ⟨n - 1, by have := h.one; omega⟩
    rw [List.take_succ_cons, List.drop_succ_cons, List.flatMap_cons]
    show rowsAcc s.data cs = _
    have hx : ∀ x ∈ cs.take m, x.beg = false := fun x hx => by
      obtain ⟨i, hi⟩ := List.mem_iff_getElem?.1 hx
      have him : i < m := by
        rcases Nat.lt_or_ge i m with y | y
        · exact y
        · rw [List.getElem?_eq_none (by rw [List.length_take]; omega)] at hi; cases hi
      rw [List.getElem?_take_of_lt him] at hi
      exact h.plain (i + 1) x (by omega) (by omega) (by rw [List.getElem?_cons_succ]; exact hi)
    conv => lhs; rw [← List.take_append_drop m cs]
    rw [rowsAcc_plain _ _ hx]
    cases hd : cs.drop m with
    | nil => rfl
    | cons c rest =>
      have hc : cs[m]? = some c := by
        have := congrArg List.head? hd
        rw [List.head?_drop] at this
        exact this
      have hb := h.stop c (by rw [List.getElem?_cons_succ]; exact hc)
      rw [rowsAcc, hb, if_pos rfl]
      rfl
theorem rowsP_len (ss : List Sec) (hd : ∀ s ∈ ss, s.data.length ≤ 16) (n : Nat) : ((ss.take n).flatMap (·.data)).length ≤ 16 * ss.length := by
  have h : ∀ l : List Sec, (∀ s ∈ l, s.data.length ≤ 16) → (l.flatMap (·.data)).length ≤ 16 * l.length := by
    intro l
    induction l with
    | nil => intro _; simp
    | cons s l ih =>
      intro h
      have h1 := h s List.mem_cons_self
      have h2 := ih (fun x hx => h x (List.mem_cons_of_mem _ hx))
      rw [List.flatMap_cons, List.length_append, List.length_cons]; omega
  have := h (ss.take n) (fun s hs => hd s (List.mem_of_mem_take hs))
  rw [List.length_take] at this
  omega

/-- What Open answers, by what it looks for. -/
def openP (ss : List Sec) : Option (LogD × List RecD) :=
  if (lastL ss).n = 0 then some (⟨1, 1, 1⟩, [])
  else if (lastL ss).first < 1 ∨ (lastL ss).n < (lastL ss).first then none
  else match cntF ss (lastL ss).first ((lastL ss).n - (lastL ss).first + 1) with
    | none => none
    | some cs => match tellP cs with
      | none => none
      | some rs => some (⟨(lastL ss).n + 1, (lastL ss).first, (lastL ss).first⟩, rs)
theorem tells_openP (S : List (List Int)) (hN : 0 < S.length) : tells S = openP (thereL S) := by
  unfold tells openP
  rw [lastL_n]
  by_cases h0 : lastN S = 0
  · rw [if_pos h0, if_pos h0]
  · rw [if_neg h0, if_neg h0, secN_last S h0]
    simp only
    by_cases h1 : (lastL (thereL S)).first < 1 ∨ lastN S < (lastL (thereL S)).first
    · rw [if_pos h1, if_pos (by omega)]
    · rw [if_neg h1]
      have hf : 1 ≤ (lastL (thereL S)).first := by omega
      by_cases h2 : S.length ≤ lastN S - (lastL (thereL S)).first
      · rw [if_pos (by omega)]
        cases hc : cntF (thereL S) (lastL (thereL S)).first (lastN S - (lastL (thereL S)).first + 1) with
        | none => rfl
        | some cs =>
          have := cntF_le (thereL S) _ _ cs (by rw [thereL_len]; exact hN) hf hc
          rw [thereL_len] at this
          omega
      · rw [if_neg (by omega), secsFrom_there S _ hf hN]
        cases cntF (thereL S) (lastL (thereL S)).first (lastN S - (lastL (thereL S)).first + 1) with
        | none => rfl
        | some cs => simp only [tellP_eq]; cases tellR cs <;> rfl
theorem readS_ok {z : List Int} {s : Sec} (hl : z.length = 32) (hz : isBytes z) (h : readS z = some s) : s.data.length ≤ 16 ∧ s.n < 4294967296 ∧ s.first < 4294967296 ∧ isBytes s.data := by
  unfold readS at h
  split at h
  · rename_i hi
    injection h with h
    simp only [isSec, Bool.and_eq_true, decide_eq_true_eq, beq_iff_eq] at hi
    have h1 := fromN_lt (z.take 4) (hz.take 4)
    have h2 := fromN_lt ((z.drop 4).take 4) ((hz.drop 4).take 4)
    have e1 : (z.take 4).length = 4 := by rw [List.length_take]; omega
    have e2 : ((z.drop 4).take 4).length = 4 := by rw [List.length_take, List.length_drop]; omega
    rw [e1] at h1
    rw [e2] at h2
    rw [← h]
    refine ⟨?_, by show fromN _ < _; omega, by show fromN _ < _; omega, (hz.drop 9).take _⟩
    show ((z.drop 9).take _).length ≤ 16
    rw [List.length_take]
    have := hi.1.2
    omega
  · cases h
end Go.Proofs.YtdmkkfpbgpijjaaGreat
namespace Go.Proofs.YtdmkkfpbgpijjaaGreat
open Go.RowKit Go.Deep Go.Maps
set_option linter.unusedVariables false

theorem there_read (S : List (List Int)) (i : Nat) (hl : (secAt S i).length = 32) (hz : isBytes (secAt S i)) : thereS S i = if readsB (secAt S i) = true ∧ placeOf S.length (secR16 (secAt S i)).n = i then secR16 (secAt S i) else zS := by
  unfold thereS
  rw [readS_eq _ hl hz]
  unfold readsB
  by_cases h1 : secL (secR16 (secAt S i)) = secAt S i
  · rw [if_pos h1]
    simp only
    by_cases h2 : 1 ≤ (secR16 (secAt S i)).n ∧ placeOf S.length (secR16 (secAt S i)).n = i
    · have h3 : (secR16 (secAt S i)).n ≠ 0 := by omega
      rw [if_pos h2, if_pos ⟨by simp [h3, h1], h2.2⟩]
    · rw [if_neg h2, if_neg (fun h => h2 ⟨by have := h.1; simp only [Bool.and_eq_true, decide_eq_true_eq] at this; omega, h.2⟩)]
  · rw [if_neg h1]
    simp only
    rw [if_neg (fun h => by have := h.1; simp [h1] at this)]
theorem now_bytes {st : St} (h : BytesD st) {N : Nat} (hw : Wf N st) (i : Nat) (hi : i < N) : isBytes (secAt (nows st) i) := by
  have hl := hw.nows_len
  have hm : secAt (nows st) i ∈ nows st := by
    unfold secAt
    rw [List.getElem?_eq_getElem (by omega), Option.getD_some]
    exact List.getElem_mem _
  exact bytes_nows h _ hm
theorem there_len (S : List (List Int)) (i : Nat) (hl : (secAt S i).length = 32) (hz : isBytes (secAt S i)) : okS (thereS S i) := by
  rw [there_read S i hl hz]
  split
  · exact secR16_ok _ hl hz
  · exact zS_ok

/-! ### sectors in memory -/
theorem good_moves {A : Option Addr} {c b : Nat} {zs : List Int} {w w' : World} (g : Good A c zs w) (hm : Moves (· = b) w w') (hne : ∀ a, A = some a → a.block ≠ b) : Good A c zs w' := by
  refine ⟨fun h0 => ?_, g.2⟩
  obtain ⟨b', off, rfl, hlt, hc⟩ := g.1 h0
  exact ⟨b', off, rfl, Nat.lt_of_lt_of_le hlt hm.size, fun j hj => (World.cell?_of_block (a := ⟨b', off + j, none⟩) (hm.block b' hlt (hne _ rfl))).trans (hc j hj)⟩
def secX (s : Sec) (A : Option Addr) (c : Nat) : List Value := secV s.n s.first s.beg A s.data.length c
theorem secX_len (s : Sec) (A : Option Addr) (c : Nat) : (secX s A c).length = 4 := rfl
/-- Sectors that the call lays, one behind the other, from the block's beginning on. -/
structure Built (w : World) (b : Nat) (ss : List Sec) : Prop where
  lt : b < w.heap.size
  at_ : ∀ j s, ss[j]? = some s → w.there b (j * 4) 4 ∧ ∃ A c, w.rangeAt b (j * 4) (secX s A c) ∧ Good A c s.data w ∧ ∀ a, A = some a → a.block ≠ b
theorem Built.below {w w' : World} {b : Nat} {ss : List Sec} (h : Built w b ss) (hb : Below w.heap.size w w') : Built w' b ss :=
  ⟨Nat.lt_of_lt_of_le h.lt hb.size, fun j s hj => by
    obtain ⟨ht, A, c, hr, hg, hne⟩ := h.at_ j s hj
    exact ⟨there_below ht hb h.lt, A, c, rangeAt_of_block' (hb.block b h.lt) hr, hg.below hb, hne⟩⟩
theorem Built.set {w w2 : World} {b i : Nat} {ss : List Sec} {s : Sec} {A : Option Addr} {c : Nat} (h : Built w b ss) (hi : i < ss.length) (e : Hid (w2 = w.setCells b (i * 4) (secX s A c))) (g : Good A c s.data w) (hne : ∀ a, A = some a → a.block ≠ b) : Built w2 b (ss.set i s) := by
  have hm := moves_store e
  refine ⟨by rw [size_store e]; exact h.lt, fun j t hj => ?_⟩
  have hjl : j < ss.length := by
    rcases Nat.lt_or_ge j ss.length with x | x
    · exact x
    · rw [List.getElem?_eq_none (by rw [List.length_set]; exact x)] at hj; cases hj
  obtain ⟨ht, A', c', hr, hg, hne'⟩ := h.at_ j ss[j] (List.getElem?_eq_getElem hjl)
  refine ⟨there_store e ht, ?_⟩
  by_cases hij : i = j
  · subst hij
    rw [List.getElem?_set_self hi] at hj
    injection hj with hj
    subst hj
    exact ⟨A, c, range_store e ht, good_moves g hm hne, hne⟩
  · rw [List.getElem?_set_ne hij, List.getElem?_eq_getElem hjl] at hj
    injection hj with hj
    subst hj
    exact ⟨A', c', range_store_apart e hr (.inr (by rw [secX_len, secX_len]; omega)), good_moves hg hm hne', hne'⟩
theorem made_secs (n j i : Nat) (hj : j < n) (hi : i < 4) : (madeCells (secV 0 0 false none 0 0).toArray (n * 4))[j * 4 + i]? = (secV 0 0 false none 0 0)[i]? := by
  have h1 : j * 4 + i < n * 4 := by omega
  have h2 : (j * 4 + i) % 4 = i := by omega
  have h3 : (madeCells (secV 0 0 false none 0 0).toArray (n * 4))[j * 4 + i]? = some ((secV 0 0 false none 0 0)[i]?.getD default) := by simp [madeCells, h1, h2, secV]
  rw [h3]
  have h4 : i = 0 ∨ i = 1 ∨ i = 2 ∨ i = 3 := by omega
  rcases h4 with rfl | rfl | rfl | rfl <;> rfl
theorem built_made {w : World} {b n : Nat} {t : TypeId} (hb : w.heap[b]? = some (.cells (madeCells (secV 0 0 false none 0 0).toArray (n * 4)) t)) : Built w b (List.replicate n zS) := by
  refine ⟨(Array.getElem?_eq_some_iff.1 hb).1, fun j s hj => ?_⟩
  rw [List.getElem?_replicate] at hj
  have hjn : j < n := by
    rcases Nat.lt_or_ge j n with x | x
    · exact x
    · rw [if_neg (by omega)] at hj; cases hj
  rw [if_pos hjn] at hj
  injection hj with hj
  subst hj
  have hc : ∀ i, i < 4 → w.cell? ⟨b, j * 4 + i, none⟩ = (secV 0 0 false none 0 0)[i]? := fun i hi => by
    rw [cell_of_row w b (j * 4 + i) _ t (0, 0) hb]; exact made_secs n j i hjn hi
  refine ⟨fun i hi => ⟨?_, by simp [World.frozen?, hb]⟩, none, 0, fun i v hv => ?_, Good.nil w, fun a e => by cases e⟩
  · rw [hc i hi]
    simp [secV]; omega
  · have hi : i < 4 := by
      rcases Nat.lt_or_ge i 4 with x | x
      · exact x
      · rw [List.getElem?_eq_none (by rw [secX_len]; exact x)] at hv; cases hv
    rw [hc i hi]; exact hv
set_option maxRecDepth 100000 in
theorem info_secV : (Tryz.prog.info? 72).map (fun i => (i.zero, i.size, i.bytes)) = some (some (.agg (secV 0 0 false none 0 0).toArray), 4, 48) := by kernel_rfl
/-- The sectors so far: the first k as they stand there. -/
def uptoS (S : List (List Int)) (N k : Nat) : List Sec := (thereL S).take k ++ List.replicate (N - k) zS
theorem uptoS_zero (S : List (List Int)) (N : Nat) : uptoS S N 0 = List.replicate N zS := by simp [uptoS]
theorem uptoS_all (S : List (List Int)) (N : Nat) (h : S.length = N) : uptoS S N N = thereL S := by
  simp [uptoS, List.take_of_length_le (show (thereL S).length ≤ N by rw [thereL_len]; omega)]
theorem uptoS_len (S : List (List Int)) (N k : Nat) (h : S.length = N) (hk : k ≤ N) : (uptoS S N k).length = N := by simp [uptoS, thereL_len]; omega
theorem uptoS_set (S : List (List Int)) (N k : Nat) (h : S.length = N) (hk : k < N) : (uptoS S N k).set k (thereS S k) = uptoS S N (k + 1) := by
  have hl : k < (thereL S).length := by rw [thereL_len]; omega
  have e : (thereL S)[k] = thereS S k := by simp [thereL]
  unfold uptoS
  rw [List.take_succ_eq_append_getElem hl, e, show N - k = (N - (k + 1)) + 1 by omega, List.replicate_succ, List.set_append_right _ _ (by rw [List.length_take]; omega), List.length_take, Nat.min_eq_left (by omega), Nat.sub_self, List.set_cons_zero, List.append_assoc]
  rfl
theorem uptoS_same (S : List (List Int)) (N k : Nat) (h : S.length = N) (hk : k < N) (hz : thereS S k = zS) : uptoS S N k = uptoS S N (k + 1) := by
  have hl : k < (thereL S).length := by rw [thereL_len]; omega
  have e : (thereL S)[k] = thereS S k := by simp [thereL]
  unfold uptoS
  rw [List.take_succ_eq_append_getElem hl, e, hz, show N - k = (N - (k + 1)) + 1 by omega, List.replicate_succ, List.append_assoc]
  rfl

def SectorsSays (S : List (List Int)) (N : Nat) (w : World) (e : Ending) (w' : World) : Prop := ∃ b, e = .returned (.slice (some ⟨b, 0, none⟩) N N) ∧ Built w' b (thereL S) ∧ Below w.heap.size w w'
set_option maxRecDepth 100000 in
set_option maxHeartbeats 2000000 in
theorem sectorsOf_any (FD : Nat → Prop) (db N : Nat) (st : St) (S : List (List Int)) (w : World) (h : DiskAt w FD db N st) (hb : BytesD st) (hS : nows st = S) :
    Calls Tryz.prog 31 #[.pointer (some ⟨db, 0, none⟩)] w (SectorsSays S N w) := by
  obtain ⟨i0, hi, hz0, hz1, hz2⟩ := info_parts info_secV
  obtain ⟨hN1, hN2⟩ := h.n2
  have HL := Lib.hid (show S.length = N by rw [← hS]; exact h.wf.nows_len)
  have HZ := Lib.hid (fun i (hi : i < N) => (show (secAt S i).length = 32 ∧ isBytes (secAt S i) by rw [← hS]; exact ⟨h.wf.now_len hi, now_bytes hb h.wf i hi⟩))
  have hmk : ∀ w : World, (Instr.makeSlice 69 (.int .i64 (N : Int)) (.int .i64 (N : Int))).run Tryz.prog w = .ok (.slice (some ⟨w.heap.size, 0, none⟩) N N) (w.alloc (.cells (madeCells (secV 0 0 false none 0 0).toArray (N * 4)) 72)) := by
    intro w
    have := run_make (P := Tryz.prog) w 69 72 i0 _ Tryz.underlying69 hi hz0 .i64 .i64 N N (by omega) (by omega) (by rw [hz2]; omega) (by omega)
    rw [hz1] at this
    simpa [Value.cells] using this
  have HM := Lib.hid (fun (W : World) => built_made (n := N) (heap_alloc_new W (.cells (madeCells (secV 0 0 false none 0 0).toArray (N * 4)) 72)))
  generalize madeCells (secV 0 0 false none 0 0).toArray (N * 4) = C at *
  clear hi hz0 hz1 hz2
  have c1 := fun W (hW : Below w.heap.size w W) => sectors_at FD db N st W (h.moves (moves_of_below (F := fun _ => False) ⟨hW.os, hW.tape, hW.output, hW.size, fun k hk => hW.block k hk⟩) (fun _ _ e => e))
  have c2 := fun (i : Nat) (hi : i < N) W (hW : Below w.heap.size w W) => read_at FD db N i st (secAt S i) W (h.below hW) hi (by rw [← hS]; rfl)
  have HS := Lib.hid hS
  clear hS
  go_enter Tryz.func31, Tryz.ntmps31
  go_wp2_with fail
  refine (c1 _ (Below.refl _ _)).mono ?_
  rintro e w' ⟨rfl, rfl⟩
  clear c1
  go_wp2
  have hB0 : Below w.heap.size w (w.alloc (.cells C 72)) := (Below.refl _ _).alloc (Nat.le_refl _) _
  have hM0 := HM.out w
  rw [← uptoS_zero S N] at hM0
  generalize w.alloc (.cells C 72) = W0 at *
  go_loopw [14] (fun i wr => ∃ k : Nat, k ≤ N ∧ i = .int .i64 k ∧ Built wr w.heap.size (uptoS S N k) ∧ Below w.heap.size w wr) (fun i _ => N - (intOf i).toNat)
  case atStart => exact ⟨0, Nat.zero_le _, rfl, hM0, hB0⟩
  case round =>
    obtain ⟨k, hk, rfl, hbu, hbe⟩ := hrel
    by_cases hlt : k < N
    · have hlti : (k : Int) < (N : Int) := by omega
      have hd : decide (k < N) = true := by simpa using hlt
      obtain ⟨hzl, hzb⟩ := HZ.out k hlt
      have HTR := Lib.hid (there_read S k hzl hzb)
      go_wp2_with fail
      refine (c2 k hlt _ hbe).mono ?_
      rintro e W1 ⟨bb, rfl, hr1, hge, hlb, b1⟩
      have g1 : Good (some ⟨bb, 0, none⟩) 32 (secAt S k) W1 := goodK hr1 hlb (by rw [hzl]; omega)
      have c3 := readSector_any bb 0 32 (secAt S k) hzl hzb W1 g1
      have HSO := Lib.hid (secR16_ok _ hzl hzb)
      have HGD := Lib.hid (show ∀ W, Good (some ⟨bb, 0, none⟩) 32 (secAt S k) W → Good (some ⟨bb, 9, none⟩) 23 (secR16 (secAt S k)).data W from fun W h => by have := (h.drop 9 (by omega)).take (min (flagOf (secAt S k) % 128) 16); rw [Nat.zero_add] at this; exact this)
      have HRB := Lib.hid (show readsB (secAt S k) = true → 1 ≤ (secR16 (secAt S k)).n from fun h => by unfold readsB at h; simp only [Bool.and_eq_true, decide_eq_true_eq] at h; omega)
      have G1 := Lib.hid g1
      have HNE : bb ≠ w.heap.size := by have := hbe.size; have := hbu.lt; omega
      unfold ReadSecSays at c3
      generalize secR16 (secAt S k) = s at *
      rw [HL.out] at HTR
      clear hr1 hge hlb hzl hzb g1 c2
      go_wp2_with fail
      refine c3.mono ?_
      clear c3
      rintro e W2 ⟨b2, ⟨hrd, rfl⟩ | ⟨hrd, rfl⟩⟩
      · have g2 := HGD.out W2 (G1.out.below b2)
        have hn1 := HRB.out hrd
        have hn2 : s.n ≤ 4294967296 := by have := HSO.out.n; omega
        have hBu2 := (hbu.below b1).below b2
        have hBe2 := below_more (below_more hbe b1 (Nat.le_refl _)) b2 (Nat.le_refl _)
        have HRD := Lib.hid hrd
        clear hrd hbu hbe b1 b2
        obtain ⟨l, hl⟩ : ∃ l, s.data.length = l := ⟨_, rfl⟩
        have HLL := Lib.hid hl
        rw [hl]
        clear hl
        by_cases hp : placeOf N s.n = k
        · have c4 := fun W => place_any s.n N k hn1 hn2 hN1 hN2 hp W
          have HP := Lib.hid hp
          have HT := Lib.hid (fun o => (hBu2.below (w' := W2.alloc o) ((Below.refl _ _).alloc (Nat.le_refl _) o)))
          have HI : k < (uptoS S N k).length := by rw [uptoS_len S N k HL.out hk]; exact hlt
          clear hp
          go_wp2_with (first | (go_at_call 58; refine (c4 _).mono ?_; rintro e w' ⟨rfl, rfl⟩) | (refine wpList_storeT rfl 72 _ _ rfl w.heap.size (k * 4) (secV s.n s.first s.beg (some ⟨bb, 9, none⟩) l 23) rfl rfl ((HT.out _).at_ k _ (List.getElem?_eq_getElem HI)).1 size_secV (secV_one _ _ _ _ _ _) ?_; intro W5 e5))
          go_roundw
          case rel =>
            refine ⟨k + 1, by omega, by go_num, ?_, ?_⟩
            · have hset := (HT.out _).set HI (s := s) (A := some ⟨bb, 9, none⟩) (c := 23) (by unfold secX; rw [HLL.out]; exact e5) (g2.alloc _) (fun a e => by cases e; exact HNE)
              rw [← uptoS_set S N k HL.out hlt, HTR.out, if_pos ⟨HRD.out, HP.out⟩]
              exact hset
            · exact (hBe2.trans (((Below.refl W2.heap.size W2).alloc (Nat.le_refl _) _).mono hBe2.size)).trans (below_store e5 (by have := hBe2.size; simp; omega) (Nat.le_refl _))
          case measure => simp [intOf]; omega
        · obtain ⟨q, hq⟩ : ∃ q, placeOf N s.n = q := ⟨_, rfl⟩
          have c4 := fun W => place_any s.n N q hn1 hn2 hN1 hN2 hq W
          have hqk : ((q : Int) == (k : Int)) = false := by simp; omega
          have hqk2 : (q == k) = false := by simp; omega
          have HP := Lib.hid hp
          clear hp hq
          go_wp2_with (go_at_call 58; refine (c4 _).mono ?_; rintro e w' ⟨rfl, rfl⟩)
          go_roundw
          case rel =>
            refine ⟨k + 1, by omega, by go_num, ?_, ?_⟩
            · rw [← uptoS_same S N k HL.out hlt (by rw [HTR.out, if_neg (fun h => HP.out h.2)])]
              exact hBu2.below ((Below.refl _ _).alloc (Nat.le_refl _) _)
            · exact below_more hBe2 ((Below.refl _ _).alloc (Nat.le_refl _) _) (Nat.le_refl _)
          case measure => simp [intOf]; omega
      · have hBu2 := (hbu.below b1).below b2
        have hBe2 := below_more (below_more hbe b1 (Nat.le_refl _)) b2 (Nat.le_refl _)
        have HRD := Lib.hid hrd
        clear hrd hbu hbe b1 b2
        go_wp2
        go_roundw
        case rel =>
          refine ⟨k + 1, by omega, by go_num, ?_, ?_⟩
          · rw [← uptoS_same S N k HL.out hlt (by rw [HTR.out, if_neg (fun h => by have := h.1; rw [HRD.out] at this; cases this)])]
            exact hBu2.below ((Below.refl _ _).alloc (Nat.le_refl _) _)
          · exact below_more hBe2 ((Below.refl _ _).alloc (Nat.le_refl _) _) (Nat.le_refl _)
        case measure => simp [intOf]; omega
    · have hge : ¬ ((k : Int) < (N : Int)) := by omega
      obtain rfl : k = N := by omega
      rw [uptoS_all S k HL.out] at hbu
      go_wp2
      go_ret
      exact ⟨_, rfl, hbu, hbe⟩
end Go.Proofs.YtdmkkfpbgpijjaaGreat
