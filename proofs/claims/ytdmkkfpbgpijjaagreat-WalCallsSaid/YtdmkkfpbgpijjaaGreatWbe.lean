/- What a disk tells as a log, as plain mathematics: the last sector, the first that counts, the rows of records. No program. What a disk tells as a log, gone on: which sectors count, what Open is to answer, what is written, and what a crash leaves of a log that goes round its disk at most once. No program. A log as plain mathematics: what Append, Force and Checkpoint do; a log that was only appended to, cut by a crash, opened, and appended to again. No program. -/
import Derived.Test.YtdmkkfpbgpijjaaGreatWbd
namespace Go.Proofs.YtdmkkfpbgpijjaaGreat
set_option linter.unusedVariables false

/-! ### the records of a row -/
def stopF (b : List Int) : Nat → Nat → Nat
  | 0, k => k
  | f + 1, k => if decN (b.drop (posN b k)) = 0 then k else stopF b f (k + 1)
def stopK (b : List Int) : Nat := stopF b (b.length + 1) 0
theorem stopF_stops (b : List Int) : ∀ f k, Goes b k → b.length < 3 * (k + f) → Stops b (stopF b f k) := by
  intro f
  induction f with
  | zero =>
    intro k hg hl
    have h1 := posN_ge hg
    have h2 := posN_le b k
    omega
  | succ f ih =>
    intro k hg hl
    unfold stopF
    by_cases h : decN (b.drop (posN b k)) = 0
    · rw [if_pos h]; exact ⟨hg, h⟩
    · rw [if_neg h]; exact ih (k + 1) (hg.succ h) (by omega)
theorem stops_stopK (b : List Int) : Stops b (stopK b) := stopF_stops b _ 0 (fun i hi => absurd hi (by omega)) (by omega)
def recsL (b : List Int) : List RecD := recsN b (stopK b)
def goneL (b : List Int) : Nat := posN b (stopK b)
def rowOK (b : List Int) : Bool := decide (b.length ≤ goneL b + 23)
theorem stopK_of {b : List Int} {k : Nat} (h : Stops b k) : stopK b = k := stops_one (stops_stopK b) h
/-- Right records, cut anywhere: those that are whole, and less than 24 bytes are left. -/
theorem row_cut (l : List RecD) (hr : ∀ r ∈ l, rightB r = true) (ok : ∀ r ∈ l, okR r) (cut : Nat) (hc : cut ≤ (joinL l).length) :
    ∃ k, k ≤ l.length ∧ recsL ((joinL l).take cut) = l.take k ∧ rowOK ((joinL l).take cut) = true ∧ ((joinL l).length ≤ cut → k = l.length) := by
  have hex : ∃ k, k ≤ l.length ∧ endsN l k ≤ cut ∧ (k < l.length → cut < endsN l (k + 1)) := by
    have key : ∀ d, d ≤ l.length → (∃ k, k ≤ l.length ∧ endsN l k ≤ cut ∧ (k < l.length → cut < endsN l (k + 1))) ∨ endsN l d ≤ cut := by
      intro d
      induction d with
      | zero => intro _; right; simp [endsN, joinL]
      | succ d ih =>
        intro hd
        rcases ih (by omega) with h | h
        · exact .inl h
        · rcases Nat.lt_or_ge cut (endsN l (d + 1)) with h2 | h2
          · exact .inl ⟨d, by omega, h, fun _ => h2⟩
          · exact .inr h2
    rcases key l.length (Nat.le_refl _) with h | h
    · exact h
    · exact ⟨l.length, Nat.le_refl _, h, fun h => absurd h (by omega)⟩
  obtain ⟨k, hk, h1, h2⟩ := hex
  obtain ⟨hs, hp, hrs⟩ := back_all l hr ok cut k hk h1 h2
  have e := stopK_of hs
  refine ⟨k, hk, by unfold recsL; rw [e]; exact hrs, ?_, ?_⟩
  · unfold rowOK goneL
    rw [e, hp, decide_eq_true_eq, List.length_take]
    rcases Nat.lt_or_ge k l.length with hlt | hge
    · have h3 := h2 hlt
      have h4 := endsN_succ l k hlt
      have h5 := (encL_bd l[k]).2
      omega
    · obtain rfl : k = l.length := by omega
      have : endsN l l.length = (joinL l).length := by unfold endsN; rw [List.take_length]
      omega
  · intro hge
    rcases Nat.lt_or_ge k l.length with hlt | hge2
    · have h3 := h2 hlt
      have h4 := endsN_mono l (k + 1) l.length (by omega)
      have : endsN l l.length = (joinL l).length := by unfold endsN; rw [List.take_length]
      omega
    · omega
theorem row_nil : recsL [] = [] ∧ rowOK [] = true := by
  obtain ⟨k, hk, h1, h2, _⟩ := row_cut [] (by simp) (by simp) 0 (by simp)
  have e : (joinL ([] : List RecD)).take 0 = [] := rfl
  rw [e] at h1 h2
  exact ⟨by rw [h1]; simp, h2⟩

/-! ### rows -/
def rowsAcc (cur : List Int) : List Sec → List (List Int)
  | [] => [cur]
  | s :: ss => if s.beg then cur :: rowsAcc s.data ss else rowsAcc (cur ++ s.data) ss
theorem rowsAcc_app (xs : List Sec) (y : Sec) (ys : List Sec) (hy : y.beg = true) : ∀ cur, rowsAcc cur (xs ++ y :: ys) = rowsAcc cur xs ++ rowsAcc y.data ys := by
  induction xs with
  | nil => intro cur; simp [rowsAcc, hy]
  | cons x xs ih =>
    intro cur
    rw [List.cons_append, rowsAcc, rowsAcc]
    cases x.beg
    · simp [ih]
    · simp [ih]
def tellR (ss : List Sec) : Option (List RecD) := if (rowsAcc [] ss).all rowOK then some ((rowsAcc [] ss).flatMap recsL) else none
/-- The sectors of bytes that are appended: 16 to each, the first one begins. -/
def secsN (b : List Int) : Nat := (b.length + 15) / 16
def layAt (next first : Nat) (b : List Int) (i : Nat) : Sec := ⟨next + i, first, (b.drop (16 * i)).take 16, i == 0⟩
def laySecs (next first : Nat) (b : List Int) : List Sec := (List.range (secsN b)).map (layAt next first b)
theorem laySecs_length (next first : Nat) (b : List Int) : (laySecs next first b).length = secsN b := by simp [laySecs]
theorem rowsAcc_more (next first : Nat) (b : List Int) (rest : List Sec) (k : Nat) : ∀ j, 1 ≤ j → rowsAcc (b.take (16 * j)) ((List.range' j k).map (layAt next first b) ++ rest) = rowsAcc (b.take (16 * (j + k))) rest := by
  induction k with
  | zero => intro j _; simp
  | succ k ih =>
    intro j hj
    rw [List.range'_succ, List.map_cons, List.cons_append, rowsAcc]
    have hb : (layAt next first b j).beg = false := by simp [layAt]; omega
    rw [hb]
    have e : b.take (16 * j) ++ (layAt next first b j).data = b.take (16 * (j + 1)) := by
      show b.take (16 * j) ++ (b.drop (16 * j)).take 16 = _
      rw [show 16 * (j + 1) = 16 * j + 16 by omega, List.take_add]
    simp only [e, Bool.false_eq_true, if_false]
    rw [ih (j + 1) (by omega)]
    congr 2; omega
theorem lay_take (next first : Nat) (b : List Int) (k : Nat) (hk : k ≤ secsN b) : (laySecs next first b).take k = (List.range k).map (layAt next first b) := by
  unfold laySecs
  rw [← List.map_take, List.take_range, Nat.min_eq_left hk]
/-- The first k sectors of what is appended are one row more: the first 16 k bytes. -/
theorem rowsAcc_lay (next first : Nat) (b : List Int) (k : Nat) (h0 : 0 < k) (hk : k ≤ secsN b) (rest : List Sec) (cur : List Int) : rowsAcc cur ((laySecs next first b).take k ++ rest) = cur :: rowsAcc (b.take (16 * k)) rest := by
  rw [lay_take _ _ _ _ hk]
  obtain ⟨m, rfl⟩ : ∃ m, k = m + 1 := ⟨k - 1, by omega⟩
  rw [List.range_eq_range', List.range'_succ, List.map_cons, List.cons_append, rowsAcc]
  have hb : (layAt next first b 0).beg = true := rfl
  rw [hb, if_pos rfl]
  have e : (layAt next first b 0).data = b.take (16 * 1) := by show (b.drop (16 * 0)).take 16 = _; simp
  rw [e, rowsAcc_more next first b rest m 1 (by omega)]
  congr 3; omega
theorem secsN_full (b : List Int) : b.take (16 * secsN b) = b := List.take_of_length_le (by unfold secsN; omega)
theorem secsN_cut (b : List Int) (k : Nat) (h : k < secsN b) : 16 * k ≤ b.length := by unfold secsN at h; omega
theorem secsN_nil (b : List Int) (h : secsN b = 0) : b = [] := by
  have : b.length = 0 := by unfold secsN at h; omega
  exact List.length_eq_zero_iff.1 this

/-! ### a log that was only appended to -/
def secsRows (next first : Nat) : List (List RecD) → List Sec
  | [] => []
  | r :: R => laySecs next first (joinL r) ++ secsRows (next + secsN (joinL r)) first R
def rowsN : List (List RecD) → Nat
  | [] => 0
  | r :: R => secsN (joinL r) + rowsN R
theorem secsRows_length (R : List (List RecD)) : ∀ next first, (secsRows next first R).length = rowsN R := by
  induction R with
  | nil => intro _ _; rfl
  | cons r R ih => intro next first; rw [secsRows, List.length_append, laySecs_length, ih, rowsN]
theorem secsRows_snoc (R : List (List RecD)) (r : List RecD) : ∀ next first, secsRows next first (R ++ [r]) = secsRows next first R ++ laySecs (next + rowsN R) first (joinL r) := by
  induction R with
  | nil => intro next first; simp [secsRows, rowsN]
  | cons q R ih => intro next first; rw [List.cons_append, secsRows, ih, secsRows, rowsN, List.append_assoc, Nat.add_assoc]
theorem rowsN_snoc (R : List (List RecD)) (r : List RecD) : rowsN (R ++ [r]) = rowsN R + secsN (joinL r) := by
  induction R with
  | nil => simp [rowsN]
  | cons q R ih => rw [List.cons_append, rowsN, ih, rowsN]; omega
def RightL (l : List RecD) : Prop := ∀ r ∈ l, rightB r = true ∧ okR r
theorem join_nil {l : List RecD} (h : joinL l = []) : l = [] := by
  cases l with
  | nil => rfl
  | cons r l =>
    rw [joinL_cons] at h
    have := (encL_bd r).1
    have h2 := congrArg List.length h
    rw [List.length_append] at h2
    have h3 : ([] : List Int).length = 0 := rfl
    omega
/-- Behind a row, the first m sectors of what was appended tell a beginning of all records; all of the first j lists, if all their sectors are there. -/
theorem tell_rows (R : List (List RecD)) (first : Nat) (hR : ∀ l ∈ R, RightL l) : ∀ next cur m, m ≤ rowsN R → rowOK cur = true →
    ∃ q, q ≤ R.flatten.length ∧ (rowsAcc cur ((secsRows next first R).take m)).all rowOK = true ∧ (rowsAcc cur ((secsRows next first R).take m)).flatMap recsL = recsL cur ++ R.flatten.take q ∧ (∀ j, rowsN (R.take j) ≤ m → (R.take j).flatten.length ≤ q) := by
  induction R with
  | nil =>
    intro next cur m hm hc
    exact ⟨0, by simp, by simp [secsRows, rowsAcc, hc], by simp [secsRows, rowsAcc], by simp⟩
  | cons r R ih =>
    intro next cur m hm hc
    have hr : RightL r := hR r (by simp)
    have ih := ih (fun l hl => hR l (by simp [hl]))
    rw [rowsN] at hm
    obtain ⟨b, hb⟩ : ∃ b, joinL r = b := ⟨_, rfl⟩
    rw [hb] at hm
    rw [secsRows, hb]
    rcases Nat.eq_zero_or_pos m with h0 | h0
    · subst h0
      refine ⟨0, by simp, by simp [rowsAcc, hc], by simp [rowsAcc], fun j hj => ?_⟩
      cases j with
      | zero => simp
      | succ j =>
        rw [List.take_succ_cons, rowsN, hb] at hj
        have e1 : r = [] := join_nil (by rw [hb]; exact secsN_nil b (by omega))
        have := (ih 0 [] 0 (by omega) row_nil.2)
        obtain ⟨q, _, _, h3, h4⟩ := this
        have h5 := h4 j (by omega)
        have h6 : q = 0 ∨ R.flatten = [] := by
          simp [rowsAcc, row_nil.1] at h3
          rcases h3 with h3 | h3
          · exact .inl h3
          · right; simpa using h3
        have h7 : (R.take j).flatten.length ≤ R.flatten.length := by
          conv => rhs; rw [← List.take_append_drop j R]
          rw [List.flatten_append, List.length_append]; omega
        rw [List.take_succ_cons, List.flatten_cons, e1, List.nil_append]
        rcases h6 with h6 | h6
        · omega
        · rw [h6] at h7; simpa using h7
    · rcases Nat.lt_or_ge m (secsN b) with hlt | hge
      · rw [List.take_append_of_le_length (by rw [laySecs_length]; omega)]
        have e := rowsAcc_lay next first b m h0 (by omega) [] cur
        rw [List.append_nil] at e
        rw [e]
        obtain ⟨k, hk, k1, k2, k3⟩ := row_cut r (fun x hx => (hr x hx).1) (fun x hx => (hr x hx).2) (16 * m) (by rw [hb]; exact secsN_cut b m hlt)
        rw [hb] at k1 k2
        refine ⟨k, by simp; omega, by simp [rowsAcc, hc, k2], ?_, fun j hj => ?_⟩
        · simp only [rowsAcc, List.flatMap_cons, List.flatMap_nil, List.append_nil, k1, List.flatten_cons]
          rw [List.take_append_of_le_length hk]
        · cases j with
          | zero => simp
          | succ j =>
            rw [List.take_succ_cons, rowsN, hb] at hj
            omega
      · obtain ⟨m', rfl⟩ : ∃ m', m = secsN b + m' := ⟨m - secsN b, by omega⟩
        have et : (laySecs next first b ++ secsRows (next + secsN b) first R).take (secsN b + m') = (laySecs next first b).take (secsN b) ++ (secsRows (next + secsN b) first R).take m' := by
          have hl := laySecs_length next first b
          rw [List.take_append, hl, List.take_of_length_le (l := laySecs next first b) (i := secsN b + m') (by omega), List.take_of_length_le (l := laySecs next first b) (i := secsN b) (by omega), Nat.add_sub_cancel_left]
        rw [et]
        rcases Nat.eq_zero_or_pos (secsN b) with hz | hz
        · have eb := secsN_nil b hz
          have er : r = [] := join_nil (by rw [hb, eb])
          have el : (laySecs next first b).take (secsN b) = [] := by rw [hz]; rfl
          rw [el, List.nil_append]
          obtain ⟨q, q1, q2, q3, q4⟩ := ih (next + secsN b) cur m' (by omega) hc
          refine ⟨q, by simpa [er] using q1, q2, by simpa [er] using q3, fun j hj => ?_⟩
          cases j with
          | zero => simp
          | succ j =>
            rw [List.take_succ_cons, rowsN, hb] at hj
            have := q4 j (by omega)
            simpa [er] using this
        · rw [rowsAcc_lay next first b (secsN b) hz (Nat.le_refl _), secsN_full]
          obtain ⟨k, hk, k1, k2, k3⟩ := row_cut r (fun x hx => (hr x hx).1) (fun x hx => (hr x hx).2) (joinL r).length (Nat.le_refl _)
          have k4 := k3 (Nat.le_refl _)
          rw [List.take_length, hb] at k1 k2
          rw [k4, List.take_length] at k1
          obtain ⟨q, q1, q2, q3, q4⟩ := ih (next + secsN b) b m' (by omega) k2
          refine ⟨r.length + q, by simpa using q1, by simp only [List.all_cons, hc, q2, Bool.and_self], ?_, fun j hj => ?_⟩
          · rw [List.flatMap_cons, q3, k1, List.flatten_cons, List.take_append, List.take_of_length_le (by omega : r.length ≤ r.length + q)]
            congr 3; omega
          · cases j with
            | zero => simp
            | succ j =>
              rw [List.take_succ_cons, rowsN, hb] at hj
              have := q4 j (by omega)
              rw [List.take_succ_cons, List.flatten_cons, List.length_append]
              omega
end Go.Proofs.YtdmkkfpbgpijjaaGreat
namespace Go.Proofs.YtdmkkfpbgpijjaaGreat
set_option linter.unusedVariables false

structure LogD where
  next : Nat
  first : Nat
  sure : Nat
def placeOf (N n : Nat) : Nat := (n - 1) % N
def counts (S : List (List Int)) (i : Nat) : Nat := match readS (secAt S i) with
  | some s => if 1 ≤ s.n ∧ placeOf S.length s.n = i then s.n else 0
  | none => 0
def lastUpto (S : List (List Int)) : Nat → Nat
  | 0 => 0
  | i + 1 => max (lastUpto S i) (counts S i)
def lastN (S : List (List Int)) : Nat := lastUpto S S.length
def secN (S : List (List Int)) (n : Nat) : Option Sec := match readS (secAt S (placeOf S.length n)) with
  | some s => if s.n = n then some s else none
  | none => none
/-- The k sectors from f on, if they are there. -/
def secsFrom (S : List (List Int)) (f : Nat) : Nat → Option (List Sec)
  | 0 => some []
  | k + 1 => match secsFrom S f k, secN S (f + k) with
    | some ss, some s => some (ss ++ [s])
    | _, _ => none
def tells (S : List (List Int)) : Option (LogD × List RecD) :=
  if lastN S = 0 then some (⟨1, 1, 1⟩, [])
  else match secN S (lastN S) with
    | none => none
    | some s =>
      if s.first < 1 ∨ lastN S < s.first ∨ S.length ≤ lastN S - s.first then none
      else match secsFrom S s.first (lastN S - s.first + 1) with
        | none => none
        | some ss => match tellR ss with
          | none => none
          | some rs => some (⟨lastN S + 1, s.first, s.first⟩, rs)

theorem lastUpto_le (S : List (List Int)) (m : Nat) : ∀ k, (∀ i, i < k → counts S i ≤ m) → lastUpto S k ≤ m := by
  intro k
  induction k with
  | zero => intro _; exact Nat.zero_le _
  | succ k ih =>
    intro h
    have h1 := ih (fun i hi => h i (by omega))
    have h2 := h k (by omega)
    unfold lastUpto; omega
theorem le_lastUpto (S : List (List Int)) (i : Nat) : ∀ k, i < k → counts S i ≤ lastUpto S k := by
  intro k
  induction k with
  | zero => intro h; omega
  | succ k ih =>
    intro h
    unfold lastUpto
    rcases Nat.lt_or_ge i k with h1 | h1
    · have := ih h1; omega
    · obtain rfl : i = k := by omega
      omega
theorem placeOf_lt (N n : Nat) (h : 0 < N) : placeOf N n < N := Nat.mod_lt _ h
theorem secN_some {S : List (List Int)} {n : Nat} {s : Sec} (h : secN S n = some s) : s.n = n ∧ readS (secAt S (placeOf S.length n)) = some s := by
  unfold secN at h
  cases e : readS (secAt S (placeOf S.length n)) with
  | none => rw [e] at h; cases h
  | some t =>
    rw [e] at h
    by_cases h2 : t.n = n
    · simp only [h2, if_true] at h
      injection h with h
      subst h
      exact ⟨h2, rfl⟩
    · simp [h2] at h
theorem counts_sec {S : List (List Int)} {n : Nat} {s : Sec} (h : secN S n = some s) (h1 : 1 ≤ n) : counts S (placeOf S.length n) = n := by
  obtain ⟨e1, e2⟩ := secN_some h
  unfold counts
  rw [e2]
  simp [e1, h1]
theorem secsFrom_of (S : List (List Int)) (f : Nat) (ss : List Sec) : ∀ k, k ≤ ss.length → (∀ i (h : i < ss.length), secN S (f + i) = some ss[i]) → secsFrom S f k = some (ss.take k) := by
  intro k
  induction k with
  | zero => intro _ _; rfl
  | succ k ih =>
    intro hk h
    rw [secsFrom, ih (by omega) h, h k (by omega)]
    simp only
    rw [List.take_succ_eq_append_getElem (by omega)]
theorem lastN_of (S : List (List Int)) (m : Nat) (h1 : 1 ≤ m) (hN : 0 < S.length) (s : Sec) (hs : secN S m = some s) (hc : ∀ i, i < S.length → counts S i ≤ m) : lastN S = m := by
  have h2 := lastUpto_le S m S.length hc
  have h3 := le_lastUpto S (placeOf S.length m) S.length (placeOf_lt _ _ hN)
  rw [counts_sec hs h1] at h3
  unfold lastN
  omega
/-- If the sectors f to m are there, none counts that has a greater number, and the last one tells f as the first, these are told. -/
theorem tells_of (S : List (List Int)) (f m : Nat) (ss : List Sec) (rs : List RecD) (hf : 1 ≤ f) (hm : f ≤ m) (hN : m - f < S.length) (hl : ss.length = m - f + 1) (hs : ∀ i (h : i < ss.length), secN S (f + i) = some ss[i]) (hlast : ∀ h : m - f < ss.length, ss[m - f].first = f) (hc : ∀ i, i < S.length → counts S i ≤ m) (hr : tellR ss = some rs) :
    tells S = some (⟨m + 1, f, f⟩, rs) := by
  have hi : m - f < ss.length := by omega
  have h1 := hs (m - f) hi
  rw [show f + (m - f) = m by omega] at h1
  have hm1 := lastN_of S m (by omega) (by omega) _ h1 hc
  unfold tells
  rw [hm1, if_neg (by omega), h1]
  simp only
  rw [hlast hi, if_neg (by omega), secsFrom_of S f ss (m - f + 1) (by omega) hs]
  simp only
  rw [List.take_of_length_le (by omega), hr]
theorem tells_none (S : List (List Int)) (hc : ∀ i, i < S.length → counts S i = 0) : tells S = some (⟨1, 1, 1⟩, []) := by
  have : lastN S = 0 := by
    have := lastUpto_le S 0 S.length (fun i hi => by rw [hc i hi]; exact Nat.le_refl _)
    unfold lastN; omega
  unfold tells
  rw [if_pos this]

/-! ### sectors that are written -/
def zeroS : List Int := zeros 32
theorem zero_front : zeroS.take 4 = zeroS.drop 28 := rfl
theorem read_zero (s : Sec) (h : readS zeroS = some s) : s.n = 0 := by
  unfold readS at h
  split at h
  · injection h with h
    rw [← h]
    rfl
  · cases h
theorem counts_zero {S : List (List Int)} {i : Nat} (h : secAt S i = zeroS) : counts S i = 0 := by
  unfold counts
  rw [h]
  cases e : readS zeroS with
  | none => rfl
  | some s =>
    have := read_zero s e
    simp [this]
theorem counts_not {S : List (List Int)} {i : Nat} (h : isSec (secAt S i) = false) : counts S i = 0 := by
  unfold counts readS
  rw [h]
  rfl
/-- Sectors as writes. -/
def puts (N : Nat) (ss : List Sec) : List (Nat × List Int) := ss.map fun s => (placeOf N s.n, secL s)
theorem puts_append (N : Nat) (a b : List Sec) : puts N (a ++ b) = puts N a ++ puts N b := by simp [puts]
theorem puts_length (N : Nat) (ss : List Sec) : (puts N ss).length = ss.length := by simp [puts]
theorem puts_take (N : Nat) (ss : List Sec) (k : Nat) : (puts N ss).take k = puts N (ss.take k) := by simp [puts, List.map_take]
/-- Sectors with the numbers 1, 2, .. -/
def Numbered (L : List Sec) : Prop := ∀ i (h : i < L.length), L[i].n = i + 1
def zeroD (N : Nat) : List (List Int) := List.replicate N zeroS
theorem secAt_zeroD (N i : Nat) (h : i < N) : secAt (zeroD N) i = zeroS := by simp [secAt, zeroD, h]
theorem carry_puts (N : Nat) (L : List Sec) (hL : Numbered L) (hN : L.length ≤ N) : ∀ k, k ≤ L.length → ∀ i, i < N → secAt (carry (zeroD N) (puts N (L.take k))) i = if h : i < k ∧ i < L.length then secL (L[i]'h.2) else zeroS := by
  intro k
  induction k with
  | zero => intro _ i hi; simp [puts, carry, secAt_zeroD N i hi]
  | succ k ih =>
    intro hk i hi
    have hk' : k < L.length := by omega
    rw [List.take_succ_eq_append_getElem hk', puts_append]
    have e1 : puts N [L[k]] = [(k, secL L[k])] := by
      simp only [puts, List.map_cons, List.map_nil, placeOf]
      rw [hL k hk', Nat.add_sub_cancel, Nat.mod_eq_of_lt (by omega)]
    rw [e1, carry_snoc, secAt_set _ _ _ _ (by rw [length_carry]; simpa [zeroD] using hi), ih (by omega) i hi]
    by_cases h : k = i
    · subst h
      simp [hk']
    · simp only [h, if_false]
      by_cases h2 : i < k
      · rw [dif_pos ⟨h2, by omega⟩, dif_pos ⟨by omega, by omega⟩]
      · rw [dif_neg (by omega), dif_neg (by omega)]
theorem secN_at {S : List (List Int)} {N i : Nat} {s : Sec} (hl : S.length = N) (hi : i < N) (ok : okS s) (hn : s.n = i + 1) (h : secAt S i = secL s) : secN S (i + 1) = some s := by
  unfold secN placeOf
  rw [hl, Nat.add_sub_cancel, Nat.mod_eq_of_lt hi, h, read_sec ok]
  simp [hn]
theorem counts_le {S : List (List Int)} {N i : Nat} {s : Sec} (hl : S.length = N) (hi : i < N) (ok : okS s) (hn : s.n = i + 1) (h : secAt S i = secL s) : counts S i = i + 1 := by
  unfold counts placeOf
  rw [h, read_sec ok, hl]
  simp only
  rw [hn]
  simp [Nat.mod_eq_of_lt hi]
/-- The first m sectors of a row are on a disk, and nothing else counts. -/
structure OnD (N : Nat) (S : List (List Int)) (L : List Sec) (m : Nat) : Prop where
  len : S.length = N
  le : m ≤ L.length
  lt : L.length ≤ N
  at_ : ∀ i (h : i < m), secAt S i = secL (L[i]'(by omega))
  rest : ∀ i, m ≤ i → i < N → counts S i = 0
/-- Whatever crash comes, a beginning of what was written is there, with all that lasted ahead of it. -/
theorem crash_on (N : Nat) (L : List Sec) (hL : Numbered L) (ok : ∀ s ∈ L, okS s) (hN : L.length ≤ N) (k : Nat) (hk : k ≤ L.length) (keep tear : Int) :
    ∃ m, k ≤ m ∧ OnD N (crashL (carry (zeroD N) (puts N (L.take k))) (puts N (L.drop k)) keep tear) L m := by
  have hlen : ∀ ws, (carry (zeroD N) ws).length = N := fun ws => by rw [length_carry]; simp [zeroD]
  have hkl : (puts N (L.drop k)).length = L.length - k := by rw [puts_length, List.length_drop]
  obtain ⟨c, hc⟩ : ∃ c, keptOf keep (puts N (L.drop k)).length = c := ⟨_, rfl⟩
  have hcle : c ≤ L.length - k := by rw [← hc, hkl]; unfold keptOf; omega
  have hcar : ∀ j, j ≤ L.length - k → carry (carry (zeroD N) (puts N (L.take k))) ((puts N (L.drop k)).take j) = carry (zeroD N) (puts N (L.take (k + j))) := fun j hj => by
    rw [← carry_append, puts_take, ← puts_append]
    congr 2
    rw [List.take_add]
  have base : ∀ j, j ≤ L.length → OnD N (carry (zeroD N) (puts N (L.take j))) L j := fun j hj => by
    refine ⟨hlen _, hj, hN, fun i h => ?_, fun i h1 h2 => ?_⟩
    · rw [carry_puts N L hL hN j hj i (by omega), dif_pos ⟨h, by omega⟩]
    · exact counts_zero (by rw [carry_puts N L hL hN j hj i h2, dif_neg (by omega)])
  unfold crashL
  rw [hc]
  rcases Nat.lt_or_ge c (L.length - k) with hlt | hge
  · have hkc : k + c < L.length := by omega
    have e : (puts N (L.drop k))[c]? = some (placeOf N L[k + c].n, secL L[k + c]) := by
      simp [puts, hkc]
    rw [e]
    simp only
    rw [hcar c (by omega)]
    obtain ⟨S, hS⟩ : ∃ S, carry (zeroD N) (puts N (L.take (k + c))) = S := ⟨_, rfl⟩
    have hb := base (k + c) (by omega)
    rw [hS] at hb ⊢
    have hpl : placeOf N L[k + c].n = k + c := by
      unfold placeOf; rw [hL _ hkc, Nat.add_sub_cancel, Nat.mod_eq_of_lt (by omega)]
    have hold : secAt S (k + c) = zeroS := by rw [← hS, carry_puts N L hL hN (k + c) (by omega) (k + c) (by omega), dif_neg (by omega)]
    have okc := ok L[k + c] (List.getElem_mem hkc)
    unfold tornS
    rw [hpl]
    simp only
    rw [hold]
    have hset : ∀ z i, i < N → secAt (S.set (k + c) z) i = if k + c = i then z else secAt S i := fun z i hi => secAt_set _ _ _ _ (by rw [hb.len]; exact hi)
    have stay : ∀ z, counts (S.set (k + c) z) (k + c) = 0 → OnD N (S.set (k + c) z) L (k + c) := fun z hz => by
      refine ⟨by simpa using hb.len, by omega, hN, fun i h => ?_, fun i h1 h2 => ?_⟩
      · rw [hset z i (by omega), if_neg (by omega)]; exact hb.at_ i h
      · by_cases h3 : k + c = i
        · rw [← h3]; exact hz
        · have := hb.rest i h1 h2
          unfold counts at this ⊢
          rw [hset z i h2, if_neg h3]
          simpa using this
    have hne : (secL L[k + c]).take 4 ≠ zeroS.take 4 := by
      rw [secL_front]
      intro h
      have h2 := congrArg fromN h
      rw [four_back _ okc.n, hL _ hkc] at h2
      have h3 : fromN (zeroS.take 4) = 0 := rfl
      omega
    rcases torn_is (secL L[k + c]) zeroS (tearOf tear) (secL_length okc) rfl (by rw [secL_front, secL_back okc]) zero_front hne (by unfold tearOf; omega) with h | h | h
    · rw [h]
      refine ⟨k + c + 1, by omega, by simpa using hb.len, by omega, hN, fun i hi => ?_, fun i h1 h2 => ?_⟩
      · rw [hset _ i (by omega)]
        by_cases h3 : k + c = i
        · subst h3; rw [if_pos rfl]
        · rw [if_neg h3]; exact hb.at_ i (by omega)
      · have := hb.rest i (by omega) h2
        unfold counts at this ⊢
        rw [hset _ i h2, if_neg (by omega)]
        simpa using this
    · rw [h]
      exact ⟨k + c, by omega, stay _ (counts_zero (by rw [hset _ _ (by omega), if_pos rfl]))⟩
    · exact ⟨k + c, by omega, stay _ (counts_not (by rw [hset _ _ (by omega), if_pos rfl]; exact h))⟩
  · have e : (puts N (L.drop k))[c]? = none := List.getElem?_eq_none (by rw [hkl]; omega)
    rw [e]
    simp only
    have h1 := hcar (L.length - k) (Nat.le_refl _)
    rw [List.take_of_length_le (l := puts N (L.drop k)) (by rw [hkl]; omega), show k + (L.length - k) = L.length by omega] at h1
    rw [h1]
    exact ⟨L.length, hk, base L.length (Nat.le_refl _)⟩
end Go.Proofs.YtdmkkfpbgpijjaaGreat
namespace Go.Proofs.YtdmkkfpbgpijjaaGreat
set_option linter.unusedVariables false

def nOf (rs : List RecD) : Nat := secsN (joinL rs)
/-- The error of records in so many sectors more. -/
def fitsE (N : Nat) (lg : LogD) (rs : List RecD) (more : Nat) (spare : Int) : Int :=
  if rs.all rightB = false then 10 else if spare < 0 then 11
  else if (N : Int) - lg.next + lg.sure - nOf rs - more < spare ∨ 4294967296 < lg.next + nOf rs + more then 15 else 0
def appL (lg : LogD) (rs : List RecD) : LogD := ⟨lg.next + nOf rs, lg.first, lg.sure⟩
def appS (N : Nat) (lg : LogD) (st : St) (rs : List RecD) : St := ⟨st.safe, st.cache ++ puts N (laySecs lg.next lg.first (joinL rs))⟩
def chkSecs (lg : LogD) (rs : List RecD) : List Sec := laySecs lg.next lg.first (joinL rs) ++ [⟨lg.next + nOf rs, lg.next, [], true⟩]
def chkL (lg : LogD) (rs : List RecD) : LogD := ⟨lg.next + nOf rs + 1, lg.next, lg.sure⟩
def chkS (N : Nat) (lg : LogD) (st : St) (rs : List RecD) : St := ⟨st.safe, st.cache ++ puts N (chkSecs lg rs)⟩
def forL (lg : LogD) : LogD := ⟨lg.next, lg.first, lg.first⟩

theorem fits_ok {N : Nat} {lg : LogD} {rs : List RecD} {more : Nat} {spare : Int} (h : fitsE N lg rs more spare = 0) : rs.all rightB = true ∧ 0 ≤ spare ∧ spare ≤ (N : Int) - lg.next + lg.sure - nOf rs - more ∧ lg.next + nOf rs + more ≤ 4294967296 := by
  unfold fitsE at h
  by_cases h1 : rs.all rightB = false
  · rw [if_pos h1] at h; omega
  · rw [if_neg h1] at h
    by_cases h2 : spare < 0
    · rw [if_pos h2] at h; omega
    · rw [if_neg h2] at h
      by_cases h3 : (N : Int) - lg.next + lg.sure - nOf rs - more < spare ∨ 4294967296 < lg.next + nOf rs + more
      · rw [if_pos h3] at h; omega
      · exact ⟨by simpa using h1, by omega, by omega, by omega⟩
theorem rightL_of {rs : List RecD} (h : rs.all rightB = true) (ok : ∀ r ∈ rs, okR r) : RightL rs := fun r hr => ⟨by rw [List.all_eq_true] at h; exact h r hr, ok r hr⟩
theorem layAt_ok (next first : Nat) (b : List Int) (hb : isBytes b) (i : Nat) (hn : next + i < 4294967296) (hf : first < 4294967296) : okS (layAt next first b i) :=
  ⟨hn, hf, by show ((b.drop (16 * i)).take 16).length ≤ 16; rw [List.length_take]; omega, ((hb.drop _).take _)⟩
theorem laySecs_ok (next first : Nat) (b : List Int) (hb : isBytes b) (hn : next + secsN b ≤ 4294967296) (hf : first < 4294967296) : ∀ s ∈ laySecs next first b, okS s := by
  intro s hs
  simp only [laySecs, List.mem_map, List.mem_range] at hs
  obtain ⟨i, hi, rfl⟩ := hs
  exact layAt_ok next first b hb i (by omega) hf
theorem laySecs_at (next first : Nat) (b : List Int) (i : Nat) (h : i < (laySecs next first b).length) : (laySecs next first b)[i] = layAt next first b i := by simp [laySecs]
theorem rights_bytes {rs : List RecD} (h : RightL rs) : isBytes (joinL rs) := joinL_bytes rs fun r hr => (h r hr).2
theorem secsRows_ok (R : List (List RecD)) (hR : ∀ l ∈ R, RightL l) (first : Nat) (hf : first < 4294967296) : ∀ next, next + rowsN R ≤ 4294967296 → ∀ s ∈ secsRows next first R, okS s := by
  induction R with
  | nil => intro _ _ s hs; cases hs
  | cons r R ih =>
    intro next hn s hs
    rw [rowsN] at hn
    rw [secsRows, List.mem_append] at hs
    rcases hs with hs | hs
    · exact laySecs_ok next first _ (rights_bytes (hR r (by simp))) (by omega) hf s hs
    · exact ih (fun l hl => hR l (by simp [hl])) _ (by omega) s hs
/-- Sectors have the numbers from f on. -/
def From (f : Nat) (L : List Sec) : Prop := ∀ i (h : i < L.length), L[i].n = f + i
theorem From.append {f : Nat} {L M : List Sec} (h : From f L) (k : From (f + L.length) M) : From f (L ++ M) := fun i hi => by
  rw [List.getElem_append]
  split
  · rename_i h1; exact h i h1
  · rename_i h1
    have := k (i - L.length) (by rw [List.length_append] at hi; omega)
    rw [this]; omega
theorem from_lay (next first : Nat) (b : List Int) : From next (laySecs next first b) := fun i h => by rw [laySecs_at _ _ _ _ h]; rfl
theorem from_rows (R : List (List RecD)) (first : Nat) : ∀ next, From next (secsRows next first R) := by
  induction R with
  | nil => intro next i h; cases h
  | cons r R ih =>
    intro next
    rw [secsRows]
    refine (from_lay next first _).append ?_
    rw [laySecs_length]
    exact ih _
theorem From.numbered {L : List Sec} (h : From 1 L) : Numbered L := fun i hi => by rw [h i hi]; omega
theorem firsts_lay (next first : Nat) (b : List Int) : ∀ s ∈ laySecs next first b, s.first = first := by
  intro s hs
  simp only [laySecs, List.mem_map] at hs
  obtain ⟨i, _, rfl⟩ := hs
  rfl
theorem firsts_rows (R : List (List RecD)) (first : Nat) : ∀ next, ∀ s ∈ secsRows next first R, s.first = first := by
  induction R with
  | nil => intro _ s hs; cases hs
  | cons r R ih =>
    intro next s hs
    rw [secsRows, List.mem_append] at hs
    rcases hs with hs | hs
    · exact firsts_lay _ _ _ s hs
    · exact ih _ s hs

/-- What is on a disk is told: sectors 1 to m, all of which tell the first one as the first. -/
theorem ond_tells {N : Nat} {S : List (List Int)} {L : List Sec} {m : Nat} (h : OnD N S L m) (hL : Numbered L) (ok : ∀ s ∈ L, okS s) (hf : ∀ s ∈ L.take m, s.first = 1) (rs : List RecD) (hr : tellR (L.take m) = some rs) (h0 : m = 0 → rs = []) :
    tells S = some (⟨m + 1, 1, 1⟩, rs) := by
  rcases Nat.eq_zero_or_pos m with hm | hm
  · subst hm
    rw [h0 rfl]
    exact tells_none S fun i hi => h.rest i (Nat.zero_le _) (by rw [← h.len]; exact hi)
  · have hl := h.le
    have hlt := h.lt
    have hlen : (L.take m).length = m := by rw [List.length_take]; omega
    refine tells_of S 1 m (L.take m) rs (Nat.le_refl _) hm (by rw [h.len]; omega) (by rw [hlen]; omega) (fun i hi => ?_) (fun hi => hf _ (List.getElem_mem hi)) (fun i hi => ?_) hr
    · rw [hlen] at hi
      rw [List.getElem_take, Nat.add_comm]
      exact secN_at h.len (by omega) (ok _ (List.getElem_mem _)) (hL i (by omega)) (h.at_ i hi)
    · rw [h.len] at hi
      rcases Nat.lt_or_ge i m with h1 | h1
      · rw [counts_le h.len hi (ok _ (List.getElem_mem (by omega))) (hL i (by omega)) (h.at_ i h1)]
        omega
      · rw [h.rest i h1 hi]; omega

/-- A log that was only appended to: the lists R, of which k sectors last. -/
structure App (N : Nat) (R : List (List RecD)) (k : Nat) (lg : LogD) (st : St) : Prop where
  lg : lg = ⟨1 + rowsN R, 1, 1⟩
  le : rowsN R ≤ N
  kle : k ≤ rowsN R
  right : ∀ l ∈ R, RightL l
  safe : st.safe = carry (zeroD N) (puts N ((secsRows 1 1 R).take k))
  cache : st.cache = puts N ((secsRows 1 1 R).drop k)
theorem App.start (N : Nat) : App N [] 0 ⟨1, 1, 1⟩ ⟨zeroD N, []⟩ := ⟨rfl, Nat.zero_le _, Nat.le_refl _, (fun l hl => by cases hl), rfl, rfl⟩
theorem App.append {N : Nat} {R : List (List RecD)} {k : Nat} {lg : LogD} {st : St} (h : App N R k lg st) {rs : List RecD} (ok : ∀ r ∈ rs, okR r) {spare : Int} (hf : fitsE N lg rs 0 spare = 0) : App N (R ++ [rs]) k (appL lg rs) (appS N lg st rs) := by
  obtain ⟨f1, f2, f3, f4⟩ := fits_ok hf
  have e := h.lg
  subst e
  dsimp only at f3 f4
  refine ⟨?_, ?_, ?_, ?_, ?_, ?_⟩
  · simp only [appL, rowsN_snoc, nOf]; congr 1; omega
  · rw [rowsN_snoc]; unfold nOf at f3; omega
  · rw [rowsN_snoc]; have := h.kle; omega
  · intro l hl
    rw [List.mem_append, List.mem_singleton] at hl
    rcases hl with hl | rfl
    · exact h.right l hl
    · exact rightL_of f1 ok
  · show st.safe = _
    rw [h.safe, secsRows_snoc, List.take_append_of_le_length (by rw [secsRows_length]; exact h.kle)]
  · show st.cache ++ _ = _
    rw [h.cache, secsRows_snoc, List.drop_append_of_le_length (by rw [secsRows_length]; exact h.kle), puts_append]
theorem App.nows_eq {N : Nat} {R : List (List RecD)} {k : Nat} {lg : LogD} {st : St} (h : App N R k lg st) : nows st = carry (zeroD N) (puts N (secsRows 1 1 R)) := by
  unfold nows
  rw [h.safe, h.cache, ← carry_append, ← puts_append, List.take_append_drop]
theorem App.force {N : Nat} {R : List (List RecD)} {k : Nat} {lg : LogD} {st : St} (h : App N R k lg st) : App N R (rowsN R) (forL lg) (flushS st) := by
  have hl := secsRows_length R 1 1
  refine ⟨by rw [h.lg]; rfl, h.le, Nat.le_refl _, h.right, ?_, ?_⟩
  · show nows st = _
    rw [h.nows_eq, List.take_of_length_le (by omega)]
  · show [] = _
    rw [List.drop_of_length_le (by omega)]; rfl
theorem tell_first (R : List (List RecD)) (hR : ∀ l ∈ R, RightL l) (m : Nat) (hm : m ≤ rowsN R) :
    ∃ q, q ≤ R.flatten.length ∧ tellR ((secsRows 1 1 R).take m) = some (R.flatten.take q) ∧ (∀ j, rowsN (R.take j) ≤ m → (R.take j).flatten.length ≤ q) ∧ (m = 0 → R.flatten.take q = []) := by
  obtain ⟨q, h1, h2, h3, h4⟩ := tell_rows R 1 hR 1 [] m hm row_nil.2
  refine ⟨q, h1, ?_, h4, fun h0 => ?_⟩
  · unfold tellR
    rw [h2, if_pos rfl, h3, row_nil.1, List.nil_append]
  · subst h0
    simp only [List.take_zero, rowsAcc, List.flatMap_cons, List.flatMap_nil, List.append_nil] at h3
    rw [row_nil.1, List.nil_append] at h3
    exact h3.symm
/-- Behind any crash a log that was only appended to tells all that lasted, and a beginning of the rest; the sectors 1 to m are on the disk. -/
theorem App.crash {N : Nat} {R : List (List RecD)} {k : Nat} {lg : LogD} {st : St} (h : App N R k lg st) (hN : N ≤ 512) (keep tear : Int) :
    ∃ m q, m ≤ rowsN R ∧ q ≤ R.flatten.length ∧ (∀ j, rowsN (R.take j) ≤ k → (R.take j).flatten.length ≤ q) ∧ OnD N (crashS st keep tear).safe (secsRows 1 1 R) m ∧ tellR ((secsRows 1 1 R).take m) = some (R.flatten.take q) ∧ tells (nows (crashS st keep tear)) = some (⟨m + 1, 1, 1⟩, R.flatten.take q) := by
  have hle := h.le
  have hl := secsRows_length R 1 1
  have hok := secsRows_ok R h.right 1 (by omega) 1 (by omega)
  have hnum := (from_rows R 1 1).numbered
  obtain ⟨m, hkm, hon⟩ := crash_on N (secsRows 1 1 R) hnum hok (by omega) k (by rw [hl]; exact h.kle) keep tear
  have hm : m ≤ rowsN R := by have := hon.le; omega
  obtain ⟨q, q1, q2, q3, q4⟩ := tell_first R h.right m hm
  have es : (crashS st keep tear).safe = crashL (carry (zeroD N) (puts N ((secsRows 1 1 R).take k))) (puts N ((secsRows 1 1 R).drop k)) keep tear := by
    show crashL st.safe st.cache keep tear = _
    rw [h.safe, h.cache]
  rw [← es] at hon
  refine ⟨m, q, hm, q1, fun j hj => q3 j (by omega), hon, q2, ?_⟩
  exact ond_tells hon hnum hok (fun s hs => firsts_rows R 1 1 s (List.mem_of_mem_take hs)) _ q2 q4
end Go.Proofs.YtdmkkfpbgpijjaaGreat
