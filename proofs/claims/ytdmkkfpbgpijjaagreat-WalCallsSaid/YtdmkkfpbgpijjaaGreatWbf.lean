/- A log as plain mathematics, gone on: appended to behind a crash; checkpointed, and cut by a crash; checkpointed again and again, round its disk. No program. What layer 5's calls answer, as one bundle (WalOK), which the walks of the statements take: LI says where a log lies in memory (its blocks F, its own place, its disk's place, its numbers). What the statements of layer 5 call of their own: begin (a log on a new disk). A log and its disk among other things in memory: what stays over a call; a crash, and an Open behind it. -/
import Derived.Test.YtdmkkfpbgpijjaaGreatWbe
import Derived.Test.YtdmkkfpbgpijjaaGreatWbc
import Derived.Test.YtdmkkfpbgpijjaaGreatWam
namespace Go.Proofs.YtdmkkfpbgpijjaaGreat
set_option linter.unusedVariables false

/-! ### sectors written over a disk -/
theorem place_inj {N f i j : Nat} (hf : 1 ≤ f) (hi : i < N) (hj : j < N) (h : placeOf N (f + i) = placeOf N (f + j)) : i = j := by
  unfold placeOf at h
  rw [show f + i - 1 = (f - 1) + i by omega, show f + j - 1 = (f - 1) + j by omega] at h
  have h1 := Nat.div_add_mod (f - 1 + i) N
  have h2 := Nat.div_add_mod (f - 1 + j) N
  have h3 : (f - 1 + i) / N = (f - 1 + j) / N ∨ (f - 1 + i) / N + 1 ≤ (f - 1 + j) / N ∨ (f - 1 + j) / N + 1 ≤ (f - 1 + i) / N := by omega
  rcases h3 with h3 | h3 | h3
  · rw [h3] at h1; omega
  · have h4 := Nat.mul_le_mul_left N h3
    rw [Nat.mul_add, Nat.mul_one] at h4
    omega
  · have h4 := Nat.mul_le_mul_left N h3
    rw [Nat.mul_add, Nat.mul_one] at h4
    omega
theorem puts_mem {N f : Nat} {M : List Sec} (hM : From f M) {p : Nat × List Int} (hp : p ∈ puts N M) : ∃ i, ∃ h : i < M.length, p = (placeOf N (f + i), secL M[i]) := by
  simp only [puts, List.mem_map] at hp
  obtain ⟨s, hs, rfl⟩ := hp
  obtain ⟨i, hi, rfl⟩ := List.getElem_of_mem hs
  exact ⟨i, hi, by rw [hM i hi]⟩
theorem lastIn_puts {N f : Nat} (hf : 1 ≤ f) : ∀ {M : List Sec}, From f M → M.length ≤ N → ∀ i (h : i < M.length), lastIn (placeOf N (f + i)) (puts N M) = some (secL M[i]) := by
  intro M hM hN i hi
  have key : ∀ k, k ≤ M.length → i < k → lastIn (placeOf N (f + i)) (puts N (M.take k)) = some (secL M[i]) := by
    intro k
    induction k with
    | zero => intro _ h; omega
    | succ k ih =>
      intro hk hik
      have hk' : k < M.length := by omega
      rw [List.take_succ_eq_append_getElem hk', puts_append]
      have e1 : puts N [M[k]] = [(placeOf N (f + k), secL M[k])] := by simp only [puts, List.map_cons, List.map_nil]; rw [hM k hk']
      rw [e1, lastIn_snoc]
      by_cases h : i = k
      · subst h; simp
      · rw [if_neg (fun e => h (place_inj hf (by omega) (by omega) e.symm)), ih (by omega) (by omega)]
  have := key M.length (Nat.le_refl _) hi
  rwa [List.take_length] at this
theorem lastIn_other {N f : Nat} {M : List Sec} (hM : From f M) {p : Nat} (h : ∀ i, i < M.length → placeOf N (f + i) ≠ p) : lastIn p (puts N M) = none := by
  cases e : lastIn p (puts N M) with
  | none => rfl
  | some z =>
    have h1 := lastIn_mem p _ z e
    obtain ⟨i, hi, h2⟩ := puts_mem hM h1
    injection h2 with h2 h3
    exact absurd h2.symm (h i hi)
theorem put_at {N f : Nat} {S : List (List Int)} {M : List Sec} (hl : S.length = N) (hf : 1 ≤ f) (hM : From f M) (hN : M.length ≤ N) (i : Nat) (h : i < M.length) : secAt (carry S (puts N M)) (placeOf N (f + i)) = secL M[i] := by
  rw [carry_at _ _ _ (by rw [hl]; exact placeOf_lt _ _ (by omega)), lastIn_puts hf hM hN i h]
  rfl
theorem put_other {N f : Nat} {S : List (List Int)} {M : List Sec} (hl : S.length = N) (hM : From f M) {p : Nat} (hp : p < N) (h : ∀ i, i < M.length → placeOf N (f + i) ≠ p) : secAt (carry S (puts N M)) p = secAt S p := by
  rw [carry_at _ _ _ (by omega), lastIn_other hM h]
  rfl
theorem counts_same {S S' : List (List Int)} {i : Nat} (hl : S'.length = S.length) (h : secAt S' i = secAt S i) : counts S' i = counts S i := by
  unfold counts
  rw [h, hl]
theorem put_secN {N f : Nat} {S : List (List Int)} {M : List Sec} (hl : S.length = N) (hf : 1 ≤ f) (hM : From f M) (ok : ∀ s ∈ M, okS s) (hN : M.length ≤ N) (i : Nat) (h : i < M.length) : secN (carry S (puts N M)) (f + i) = some M[i] := by
  unfold secN
  rw [length_carry, hl, put_at hl hf hM hN i h, read_sec (ok _ (List.getElem_mem h))]
  simp [hM i h]
theorem put_counts {N f b : Nat} {S : List (List Int)} {M : List Sec} (hl : S.length = N) (hf : 1 ≤ f) (hM : From f M) (ok : ∀ s ∈ M, okS s) (hN : M.length ≤ N) (hb : ∀ i, i < N → counts S i ≤ b) (hbf : b ≤ f + M.length - 1) (p : Nat) (hp : p < N) : counts (carry S (puts N M)) p ≤ f + M.length - 1 := by
  have hlc : (carry S (puts N M)).length = S.length := length_carry _ _
  by_cases h : ∃ i, i < M.length ∧ placeOf N (f + i) = p
  · obtain ⟨i, hi, rfl⟩ := h
    have h1 := put_secN hl hf hM ok hN i hi
    have h2 := counts_sec h1 (by omega)
    rw [hlc, hl] at h2
    rw [h2]; omega
  · have h1 := put_other hl hM hp (fun i hi e => h ⟨i, hi, e⟩)
    rw [counts_same hlc h1]
    have := hb p hp
    omega
theorem place_small {N n : Nat} (h1 : 1 ≤ n) (h2 : n ≤ N) : placeOf N n = n - 1 := Nat.mod_eq_of_lt (by omega)
/-- Sectors m+1, .. written behind the first m. -/
theorem ond_put {N : Nat} {S : List (List Int)} {L M : List Sec} {m : Nat} (h : OnD N S L m) (hM : From (m + 1) M) (hN : m + M.length ≤ N) : OnD N (carry S (puts N M)) (L.take m ++ M) (m + M.length) := by
  have hlt : (L.take m).length = m := by rw [List.length_take]; have := h.le; omega
  have hpl : ∀ i, i < M.length → placeOf N (m + 1 + i) = m + i := fun i hi => by rw [place_small (by omega) (by omega)]; omega
  refine ⟨by rw [length_carry, h.len], by rw [List.length_append, hlt]; omega, by rw [List.length_append, hlt]; exact hN, fun i hi => ?_, fun i h1 h2 => ?_⟩
  · rw [List.getElem_append]
    split
    · rename_i h1
      rw [hlt] at h1
      rw [put_other h.len hM (by omega) (fun j hj => by rw [hpl j hj]; omega), List.getElem_take]
      exact h.at_ i h1
    · rename_i h1
      rw [hlt] at h1
      have := put_at h.len (by omega) hM (by omega) (i - m) (by omega)
      rw [hpl _ (by omega), show m + (i - m) = i by omega] at this
      rw [this]
      congr 2
      rw [hlt]
  · rw [counts_same (length_carry _ _) (put_other h.len hM h2 (fun j hj => by rw [hpl j hj]; omega))]
    exact h.rest i (by omega) h2

/-! ### records behind others -/
theorem rows_full (next first : Nat) (rs : List RecD) (h : RightL rs) : (rowsAcc [] (laySecs next first (joinL rs))).all rowOK = true ∧ (rowsAcc [] (laySecs next first (joinL rs))).flatMap recsL = rs := by
  obtain ⟨q, h1, h2, h3, h4⟩ := tell_rows [rs] first (fun l hl => by simp at hl; subst hl; exact h) next [] (rowsN [rs]) (Nat.le_refl _) row_nil.2
  have e : (secsRows next first [rs]).take (rowsN [rs]) = laySecs next first (joinL rs) := by
    rw [List.take_of_length_le (by rw [secsRows_length]; exact Nat.le_refl _)]
    simp [secsRows]
  rw [e] at h2 h3
  refine ⟨h2, ?_⟩
  rw [h3, row_nil.1, List.nil_append]
  have h5 := h4 1 (by simp)
  simp at h1 h5 ⊢
  exact List.take_of_length_le h5
theorem laySecs_cons {next first : Nat} {b : List Int} (h : 0 < secsN b) : ∃ y ys, laySecs next first b = y :: ys ∧ y.beg = true := by
  obtain ⟨k, hk⟩ : ∃ k, secsN b = k + 1 := ⟨secsN b - 1, by omega⟩
  refine ⟨layAt next first b 0, (List.range' 1 k).map (layAt next first b), ?_, rfl⟩
  unfold laySecs
  rw [hk, List.range_eq_range', List.range'_succ, List.map_cons]
/-- Records appended behind sectors that tell some. -/
theorem tellR_more {xs : List Sec} {rs : List RecD} (h : tellR xs = some rs) (next first : Nat) {more : List RecD} (hr : RightL more) : tellR (xs ++ laySecs next first (joinL more)) = some (rs ++ more) := by
  rcases Nat.eq_zero_or_pos (secsN (joinL more)) with h0 | h0
  · have e := join_nil (secsN_nil _ h0)
    subst e
    have e2 : laySecs next first (joinL ([] : List RecD)) = [] := by unfold laySecs; rw [h0]; rfl
    rw [e2, List.append_nil, List.append_nil, h]
  · obtain ⟨y, ys, e, hy⟩ := laySecs_cons (next := next) (first := first) h0
    obtain ⟨r1, r2⟩ := rows_full next first more hr
    rw [e] at r1 r2 ⊢
    have e0 := rowsAcc_app [] y ys hy []
    rw [List.nil_append] at e0
    rw [e0] at r1 r2
    have en : rowsAcc [] ([] : List Sec) = [[]] := rfl
    rw [en] at r1 r2
    rw [List.all_append, Bool.and_eq_true] at r1
    rw [List.flatMap_append] at r2
    have en2 : ([[]] : List (List Int)).flatMap recsL = [] := by simp [row_nil.1]
    rw [en2, List.nil_append] at r2
    unfold tellR at h ⊢
    rw [rowsAcc_app xs y ys hy, List.all_append, List.flatMap_append, r2, r1.2, Bool.and_true]
    split at h
    · rename_i h3
      injection h with h
      rw [if_pos h3, h]
    · cases h
/-- Opened behind a crash, appended to and forced: what was told, and the rest behind it. -/
theorem App.again {N : Nat} {R : List (List RecD)} (hR : ∀ l ∈ R, RightL l) (hN : N ≤ 512) {S : List (List Int)} {m : Nat} {rs : List RecD} (h : OnD N S (secsRows 1 1 R) m) (ht : tellR ((secsRows 1 1 R).take m) = some rs) {more : List RecD} (ok : ∀ r ∈ more, okR r) {spare : Int} (hf : fitsE N ⟨m + 1, 1, 1⟩ more 0 spare = 0) :
    tells (nows (flushS (appS N ⟨m + 1, 1, 1⟩ ⟨S, []⟩ more))) = some (⟨m + 1 + nOf more, 1, 1⟩, rs ++ more) := by
  obtain ⟨f1, f2, f3, f4⟩ := fits_ok hf
  dsimp only at f3 f4
  have hr := rightL_of f1 ok
  have hle := h.le
  have hlt := h.lt
  rw [secsRows_length] at hle hlt
  have hml : m + (laySecs (m + 1) 1 (joinL more)).length ≤ N := by rw [laySecs_length]; unfold nOf at f3; omega
  have h1 := ond_put h (from_lay (m + 1) 1 (joinL more)) hml
  have e : nows (flushS (appS N ⟨m + 1, 1, 1⟩ ⟨S, []⟩ more)) = carry S (puts N (laySecs (m + 1) 1 (joinL more))) := rfl
  rw [e]
  have ht2 := tellR_more ht (m + 1) 1 hr
  have hlm : ((secsRows 1 1 R).take m).length = m := by rw [List.length_take, secsRows_length]; omega
  have hnum : Numbered ((secsRows 1 1 R).take m ++ laySecs (m + 1) 1 (joinL more)) := by
    apply From.numbered
    refine From.append (fun i hi => ?_) ?_
    · rw [List.getElem_take]; exact from_rows R 1 1 i (by rw [List.length_take] at hi; omega)
    · rw [hlm, Nat.add_comm]; exact from_lay _ _ _
  have hok : ∀ s ∈ (secsRows 1 1 R).take m ++ laySecs (m + 1) 1 (joinL more), okS s := by
    intro s hs
    rw [List.mem_append] at hs
    rcases hs with hs | hs
    · exact secsRows_ok R hR 1 (by omega) 1 (by omega) s (List.mem_of_mem_take hs)
    · exact laySecs_ok _ _ _ (rights_bytes hr) (by unfold nOf at f4; omega) (by omega) s hs
  have hfull : ((secsRows 1 1 R).take m ++ laySecs (m + 1) 1 (joinL more)).take (m + (laySecs (m + 1) 1 (joinL more)).length) = (secsRows 1 1 R).take m ++ laySecs (m + 1) 1 (joinL more) := List.take_of_length_le (by rw [List.length_append, hlm]; omega)
  have := ond_tells h1 hnum hok (fun s hs => by
    rw [hfull, List.mem_append] at hs
    rcases hs with hs | hs
    · exact firsts_rows R 1 1 s (List.mem_of_mem_take hs)
    · exact firsts_lay _ _ _ s hs) (rs ++ more) (by rw [hfull]; exact ht2) (fun h0 => by
      have hm0 : m = 0 := by omega
      have hn0 : secsN (joinL more) = 0 := by rw [laySecs_length] at h0; omega
      have e2 := join_nil (secsN_nil _ hn0)
      subst e2
      rw [hm0] at ht
      have e3 : tellR ((secsRows 1 1 R).take 0) = some [] := by
        unfold tellR
        simp [rowsAcc, row_nil.1, row_nil.2]
      rw [e3] at ht
      injection ht with ht
      rw [← ht]; rfl)
  rw [this, laySecs_length]
  unfold nOf
  congr 3
  omega

/-! ### a checkpoint -/
theorem from_chk (lg : LogD) (rs : List RecD) : From lg.next (chkSecs lg rs) := by
  unfold chkSecs
  refine (from_lay _ _ _).append ?_
  rw [laySecs_length]
  intro i hi
  simp at hi
  subst hi
  rfl
theorem chk_length (lg : LogD) (rs : List RecD) : (chkSecs lg rs).length = nOf rs + 1 := by simp [chkSecs, laySecs_length, nOf]
theorem chk_ok (lg : LogD) (rs : List RecD) (hr : RightL rs) (hn : lg.next + nOf rs + 1 ≤ 4294967296) (hf : lg.first < 4294967296) : ∀ s ∈ chkSecs lg rs, okS s := by
  intro s hs
  unfold chkSecs at hs
  rw [List.mem_append, List.mem_singleton] at hs
  rcases hs with hs | rfl
  · exact laySecs_ok _ _ _ (rights_bytes hr) (by unfold nOf at hn; omega) hf s hs
  · exact ⟨by dsimp only; omega, by dsimp only; omega, by simp, by intro z hz; cases hz⟩
/-- A checkpoint's sectors, and some of what was appended behind it. -/
theorem tellR_chk (lg : LogD) (rs more : List RecD) (hr : RightL rs) (hm : RightL more) (next first j : Nat) (hj : j ≤ nOf more) : ∃ q, q ≤ more.length ∧ tellR (chkSecs lg rs ++ (laySecs next first (joinL more)).take j) = some (rs ++ more.take q) ∧ (nOf more ≤ j → q = more.length) := by
  obtain ⟨q, h1, h2, h3, h4⟩ := tell_rows [more] first (fun l hl => by simp at hl; subst hl; exact hm) next [] j (by simpa [rowsN, nOf] using hj) row_nil.2
  have e : secsRows next first [more] = laySecs next first (joinL more) := by simp [secsRows]
  rw [e] at h2 h3
  obtain ⟨r1, r2⟩ := rows_full lg.next lg.first rs hr
  refine ⟨q, by simpa using h1, ?_, fun hge => ?_⟩
  · unfold chkSecs tellR
    rw [List.append_assoc, List.singleton_append, rowsAcc_app _ _ _ rfl, List.all_append, List.flatMap_append, r1, r2, h2, h3, row_nil.1]
    simp
  · have := h4 1 (by simpa [rowsN, nOf] using hge)
    simp at this h1
    omega

/-! ### round the disk -/
/-- A log that was checkpointed again and again with the same records, and forced each time. -/
structure Ring (N : Nat) (rs : List RecD) (lg : LogD) (S : List (List Int)) : Prop where
  len : S.length = N
  next : lg.first + nOf rs + 1 = lg.next
  sure : lg.sure = lg.first
  one : 1 ≤ lg.first
  fit : nOf rs + 1 ≤ N
  big : lg.next ≤ 4294967296
  secs : ∃ f, ∀ i (h : i < (chkSecs ⟨lg.first, f, 0⟩ rs).length), secN S (lg.first + i) = some (chkSecs ⟨lg.first, f, 0⟩ rs)[i]
  counts : ∀ i, i < N → counts S i ≤ lg.first + nOf rs
theorem Ring.tells {N : Nat} {rs : List RecD} {lg : LogD} {S : List (List Int)} (h : Ring N rs lg S) (hr : RightL rs) : tells S = some (lg, rs) := by
  obtain ⟨f, hs⟩ := h.secs
  obtain ⟨q, h1, h2, h3⟩ := tellR_chk ⟨lg.first, f, 0⟩ rs [] hr (fun r hr => by cases hr) 0 0 0 (Nat.zero_le _)
  simp only [List.take_zero, List.append_nil, List.take_nil] at h2
  have hl := chk_length ⟨lg.first, f, 0⟩ rs
  have := tells_of S lg.first (lg.first + nOf rs) _ rs h.one (by omega) (by rw [h.len]; have := h.fit; omega) (by rw [hl]; omega) hs (fun hi => ?_) (fun i hi => h.counts i (by rw [← h.len]; exact hi)) h2
  · rw [this]
    have e1 := h.next
    have e2 := h.sure
    cases lg
    dsimp only at *
    subst e2
    rw [← e1]
  · have e : lg.first + nOf rs - lg.first = nOf rs := by omega
    simp only [e]
    unfold chkSecs
    rw [List.getElem_append]
    rw [dif_neg (by rw [laySecs_length]; unfold nOf; omega)]
    simp
theorem Ring.begin {N : Nat} {rs : List RecD} {lg : LogD} {S : List (List Int)} {b : Nat} (hl : S.length = N) (h1 : 1 ≤ lg.next) (hr : RightL rs) (hfit : nOf rs + 1 ≤ N) (hbig : lg.next + nOf rs + 1 ≤ 4294967296) (hf : lg.first < 4294967296) (hc : ∀ i, i < N → Go.Proofs.YtdmkkfpbgpijjaaGreat.counts S i ≤ b) (hb : b < lg.next) :
    Ring N rs (forL (chkL lg rs)) (nows (flushS (chkS N lg ⟨S, []⟩ rs))) := by
  have e : nows (flushS (chkS N lg ⟨S, []⟩ rs)) = carry S (puts N (chkSecs lg rs)) := rfl
  have hlen := chk_length lg rs
  have hok := chk_ok lg rs hr hbig hf
  have hfr := from_chk lg rs
  rw [e]
  refine ⟨by rw [length_carry, hl], rfl, rfl, h1, hfit, hbig, ⟨lg.first, fun i h => ?_⟩, fun i hi => ?_⟩
  · exact put_secN hl h1 hfr hok (by omega) i h
  · have := put_counts hl h1 hfr hok (by omega) hc (by omega) i hi
    rw [hlen] at this
    show _ ≤ lg.next + nOf rs
    omega
end Go.Proofs.YtdmkkfpbgpijjaaGreat
namespace Go.Proofs.YtdmkkfpbgpijjaaGreat
open Go.RowKit Go.Deep
set_option linter.unusedVariables false

/-- Every byte of a disk is one. -/
def BytesD (st : St) : Prop := (∀ z ∈ st.safe, isBytes z) ∧ ∀ p ∈ st.cache, isBytes p.2
/-- A log's numbers, as they can be. -/
structure LogOK (N : Nat) (lg : LogD) : Prop where
  one : 1 ≤ lg.first
  sure1 : 1 ≤ lg.sure
  sure : lg.sure ≤ lg.next
  first : lg.first ≤ lg.next
  next : lg.next ≤ 4294967296
  room : lg.next ≤ lg.sure + N
/-- A log and its disk in memory, apart from each other. -/
structure LogSt (LI : World → (Nat → Prop) → Nat → Nat → LogD → Prop) (w : World) (FL FD : Nat → Prop) (lb db N : Nat) (st : St) (lg : LogD) : Prop where
  log : LI w FL lb db lg
  disk : DiskAt w FD db N st
  apart : ∀ k, FL k → ¬ FD k
  ok : LogOK N lg
  bytes : BytesD st
/-- A call on a log: what it answers, and what it leaves. -/
def LogDoes (LI : World → (Nat → Prop) → Nat → Nat → LogD → Prop) (FL FD : Nat → Prop) (lb db N : Nat) (st : St) (lg : LogD) (v : Value) (w : World) (e : Ending) (w' : World) : Prop :=
  e = .returned v ∧ Moves (fun k => FL k ∨ FD k) w w' ∧ ∃ FL' FD', LogSt LI w' FL' FD' lb db N st lg ∧ (∀ k, FL' k → FL k ∨ w.heap.size ≤ k) ∧ (∀ k, FD' k → FD k ∨ w.heap.size ≤ k)
def OpenYes (LI : World → (Nat → Prop) → Nat → Nat → LogD → Prop) (db : Nat) (lg : LogD) (rs : List RecD) (w : World) (e : Ending) (w' : World) : Prop :=
  ∃ lb v FL, e = .returned (.tuple #[.pointer (some ⟨lb, 0, none⟩), v, .int .i64 0]) ∧ LI w' FL lb db lg ∧ (∀ k, FL k → w.heap.size ≤ k) ∧ OwnsR w.heap.size w' v rs ∧ (∀ k, v.ownBlock = some k → ¬ FL k) ∧ Below w.heap.size w w'
structure WalOK (LI : World → (Nat → Prop) → Nat → Nat → LogD → Prop) : Prop where
  lt : ∀ {w : World} {F : Nat → Prop} {lb db : Nat} {lg : LogD}, LI w F lb db lg → ∀ k, F k → k < w.heap.size
  kept : ∀ {w w' : World} {F G : Nat → Prop} {lb db : Nat} {lg : LogD}, LI w F lb db lg → Moves G w w' → (∀ k, F k → ¬ G k) → LI w' F lb db lg
  open_yes : ∀ (FD : Nat → Prop) (db N : Nat) (st : St) (lg : LogD) (rs : List RecD) (w : World), DiskAt w FD db N st → BytesD st → tells (nows st) = some (lg, rs) → Calls Tryz.prog 8 #[.pointer (some ⟨db, 0, none⟩)] w (OpenYes LI db lg rs w)
  open_no : ∀ (FD : Nat → Prop) (db N : Nat) (st : St) (w : World), DiskAt w FD db N st → BytesD st → tells (nows st) = none → Calls Tryz.prog 8 #[.pointer (some ⟨db, 0, none⟩)] w fun e w' => e = .returned (.tuple #[.pointer none, .slice none 0 0, .int .i64 21]) ∧ Below w.heap.size w w'
  app_yes : ∀ (FL FD : Nat → Prop) (lb db N : Nat) (st : St) (lg : LogD) (A : Option Addr) (l c : Nat) (rs : List RecD) (spare : Int) (w : World), LogSt LI w FL FD lb db N st lg → rs.length = l → l ≤ 200 → (∀ r ∈ rs, okR r) → GoodR A c rs w → isI64 spare → st.cache.length + nOf rs ≤ 999 → fitsE N lg rs 0 spare = 0 →
    Calls Tryz.prog 10 #[.pointer (some ⟨lb, 0, none⟩), .slice A l c, .int .i64 spare] w (LogDoes LI FL FD lb db N (appS N lg st rs) (appL lg rs) (.int .i64 0) w)
  app_no : ∀ (FL FD : Nat → Prop) (lb db N : Nat) (st : St) (lg : LogD) (A : Option Addr) (l c : Nat) (rs : List RecD) (spare q : Int) (w : World), LogSt LI w FL FD lb db N st lg → rs.length = l → l ≤ 200 → (∀ r ∈ rs, okR r) → GoodR A c rs w → isI64 spare → fitsE N lg rs 0 spare = q → q ≠ 0 →
    Calls Tryz.prog 10 #[.pointer (some ⟨lb, 0, none⟩), .slice A l c, .int .i64 spare] w (LogDoes LI FL FD lb db N st lg (.int .i64 q) w)
  chk_yes : ∀ (FL FD : Nat → Prop) (lb db N : Nat) (st : St) (lg : LogD) (A : Option Addr) (l c : Nat) (rs : List RecD) (spare : Int) (w : World), LogSt LI w FL FD lb db N st lg → rs.length = l → l ≤ 200 → (∀ r ∈ rs, okR r) → GoodR A c rs w → isI64 spare → st.cache.length + nOf rs + 1 ≤ 999 → fitsE N lg rs 1 spare = 0 →
    Calls Tryz.prog 14 #[.pointer (some ⟨lb, 0, none⟩), .slice A l c, .int .i64 spare] w (LogDoes LI FL FD lb db N (chkS N lg st rs) (chkL lg rs) (.int .i64 0) w)
  chk_no : ∀ (FL FD : Nat → Prop) (lb db N : Nat) (st : St) (lg : LogD) (A : Option Addr) (l c : Nat) (rs : List RecD) (spare q : Int) (w : World), LogSt LI w FL FD lb db N st lg → rs.length = l → l ≤ 200 → (∀ r ∈ rs, okR r) → GoodR A c rs w → isI64 spare → fitsE N lg rs 1 spare = q → q ≠ 0 →
    Calls Tryz.prog 14 #[.pointer (some ⟨lb, 0, none⟩), .slice A l c, .int .i64 spare] w (LogDoes LI FL FD lb db N st lg (.int .i64 q) w)
  force : ∀ (FL FD : Nat → Prop) (lb db N : Nat) (st : St) (lg : LogD) (w : World), LogSt LI w FL FD lb db N st lg → st.cache.length ≤ 1000 → Calls Tryz.prog 12 #[.pointer (some ⟨lb, 0, none⟩)] w (LogDoes LI FL FD lb db N (flushS st) (forL lg) (.tuple #[]) w)
  free : ∀ (FL FD : Nat → Prop) (lb db N : Nat) (st : St) (lg : LogD) (w : World), LogSt LI w FL FD lb db N st lg → Calls Tryz.prog 21 #[.pointer (some ⟨lb, 0, none⟩)] w fun e w' => e = .returned (.int .i64 ((N : Int) - lg.next + lg.sure)) ∧ Below w.heap.size w w'
  next : ∀ (FL FD : Nat → Prop) (lb db N : Nat) (st : St) (lg : LogD) (w : World), LogSt LI w FL FD lb db N st lg → Calls Tryz.prog 23 #[.pointer (some ⟨lb, 0, none⟩)] w fun e w' => e = .returned (.int .i64 (lg.next : Int)) ∧ Below w.heap.size w w'
  first : ∀ (FL FD : Nat → Prop) (lb db N : Nat) (st : St) (lg : LogD) (w : World), LogSt LI w FL FD lb db N st lg → Calls Tryz.prog 24 #[.pointer (some ⟨lb, 0, none⟩)] w fun e w' => e = .returned (.int .i64 (lg.first : Int)) ∧ Below w.heap.size w w'
  sectors : ∀ (A : Option Addr) (l c : Nat) (rs : List RecD) (w : World), rs.length = l → l ≤ 200 → (∀ r ∈ rs, okR r) → GoodR A c rs w → Calls Tryz.prog 29 #[.slice A l c] w fun e w' => e = .returned (.int .i64 (if rs.all rightB then (nOf rs : Int) else -1)) ∧ Below w.heap.size w w'

theorem LogSt.kept {LI : World → (Nat → Prop) → Nat → Nat → LogD → Prop} (S : WalOK LI) {w w' : World} {FL FD G : Nat → Prop} {lb db N : Nat} {st : St} {lg : LogD} (h : LogSt LI w FL FD lb db N st lg) (hm : Moves G w w') (hl : ∀ k, FL k → ¬ G k) (hd : ∀ k, FD k → ¬ G k) : LogSt LI w' FL FD lb db N st lg :=
  ⟨S.kept h.log hm hl, h.disk.moves hm hd, h.apart, h.ok, h.bytes⟩
theorem LogSt.below {LI : World → (Nat → Prop) → Nat → Nat → LogD → Prop} (S : WalOK LI) {w w' : World} {FL FD : Nat → Prop} {lb db N : Nat} {st : St} {lg : LogD} (h : LogSt LI w FL FD lb db N st lg) (hb : Below w.heap.size w w') : LogSt LI w' FL FD lb db N st lg :=
  h.kept S (moves_of_below (F := fun _ => False) hb) (fun _ _ e => e) (fun _ _ e => e)
/-- A log and its disk, and blocks X that must stay; all older than B stays, too. -/
structure LHas (LI : World → (Nat → Prop) → Nat → Nat → LogD → Prop) (B : Nat) (w0 : World) (X : Nat → Prop) (w : World) (lb db N : Nat) (st : St) (lg : LogD) : Prop where
  ex : ∃ FL FD, LogSt LI w FL FD lb db N st lg ∧ (∀ k, FL k → B ≤ k ∧ ¬ X k) ∧ (∀ k, FD k → B ≤ k ∧ ¬ X k)
  below : Below B w0 w
  size : B ≤ w.heap.size
/-- What stays of X. -/
def Stay (X : Nat → Prop) (w w' : World) : Prop := w.heap.size ≤ w'.heap.size ∧ ∀ k, X k → k < w.heap.size → w'.heap[k]? = w.heap[k]?
theorem LHas.does {LI : World → (Nat → Prop) → Nat → Nat → LogD → Prop} {B : Nat} {w0 : World} {X : Nat → Prop} {w : World} {lb db N : Nat} {st : St} {lg : LogD} (h : LHas LI B w0 X w lb db N st lg) (hX : ∀ k, X k → k < w.heap.size) {st' : St} {lg' : LogD} {v : Value} {f : Nat} {args : Array Value}
    (hc : ∀ FL FD, LogSt LI w FL FD lb db N st lg → Calls Tryz.prog f args w (LogDoes LI FL FD lb db N st' lg' v w)) :
    Calls Tryz.prog f args w fun e w' => e = .returned v ∧ LHas LI B w0 X w' lb db N st' lg' ∧ Stay X w w' := by
  obtain ⟨FL, FD, hs, h1, h2⟩ := h.ex
  refine (hc FL FD hs).mono ?_
  rintro e w' ⟨rfl, hm, FL', FD', hs', k1, k2⟩
  have hb : Below B w w' := hm.below h.size (fun k hk => hk.elim (fun a => (h1 k a).1) (fun a => (h2 k a).1))
  refine ⟨rfl, ⟨⟨FL', FD', hs', fun k hk => ?_, fun k hk => ?_⟩, h.below.trans hb, Nat.le_trans h.size hm.size⟩, hm.size, fun k hk hlt => hm.block k hlt ?_⟩
  · rcases k1 k hk with a | a
    · exact h1 k a
    · exact ⟨Nat.le_trans h.size a, fun x => absurd (hX k x) (by omega)⟩
  · rcases k2 k hk with a | a
    · exact h2 k a
    · exact ⟨Nat.le_trans h.size a, fun x => absurd (hX k x) (by omega)⟩
  · rintro (a | a)
    · exact (h1 k a).2 hk
    · exact (h2 k a).2 hk
end Go.Proofs.YtdmkkfpbgpijjaaGreat
namespace Go.Proofs.YtdmkkfpbgpijjaaGreat
open Go.RowKit Go.Deep
set_option linter.unusedVariables false

theorem bytes_new (N : Nat) : BytesD (newS N) := by
  refine ⟨fun z hz => ?_, fun p hp => by cases hp⟩
  have : z = zeroS := (List.mem_replicate.1 hz).2
  rw [this]
  exact zeros_bytes 32
theorem tells_new (N : Nat) : tells (nows (newS N)) = some (⟨1, 1, 1⟩, []) := by
  have e : nows (newS N) = zeroD N := rfl
  rw [e]
  refine tells_none _ fun i hi => counts_zero (secAt_zeroD N i ?_)
  simpa [zeroD] using hi
theorem logOK_new (N : Nat) (h : 1 ≤ N) : LogOK N ⟨1, 1, 1⟩ := ⟨Nat.le_refl _, Nat.le_refl _, Nat.le_refl _, Nat.le_refl _, by dsimp only; omega, by dsimp only; omega⟩
def BeginSays5 (LI : World → (Nat → Prop) → Nat → Nat → LogD → Prop) (N : Nat) (w : World) (e : Ending) (w' : World) : Prop :=
  ∃ db lb FL FD, e = .returned (.tuple #[.pointer (some ⟨db, 0, none⟩), .pointer (some ⟨lb, 0, none⟩)]) ∧ LogSt LI w' FL FD lb db N (newS N) ⟨1, 1, 1⟩ ∧ (∀ k, FL k → w.heap.size ≤ k) ∧ (∀ k, FD k → w.heap.size ≤ k) ∧ Below w.heap.size w w'
end Go.Proofs.YtdmkkfpbgpijjaaGreat
namespace Go.Proofs.YtdmkkfpbgpijjaaGreat
open Go.RowKit Go.Deep
set_option linter.unusedVariables false

theorem goodR_stay {A : Option Addr} {c : Nat} {rs : List RecD} {w w' : World} (h : GoodR A c rs w) (hs : w.heap.size ≤ w'.heap.size) (hb : ∀ b off, A = some ⟨b, off, none⟩ → w'.heap[b]? = w.heap[b]?) : GoodR A c rs w' := by
  refine ⟨fun h0 => ?_, h.2⟩
  obtain ⟨b, off, e, hlt, hc⟩ := h.1 h0
  exact ⟨b, off, e, Nat.lt_of_lt_of_le hlt hs, fun j r hr i v hv => (World.cell?_of_block (a := ⟨b, off + j * 11 + i, none⟩) (hb b off e)).trans (hc j r hr i v hv)⟩
theorem ownsR_stay {B : Nat} {w w' : World} {v : Value} {rs : List RecD} (h : OwnsR B w v rs) (hb : ∀ k, v.ownBlock = some k → w'.heap[k]? = w.heap[k]?) : OwnsR B w' v rs := row_kept h hb
theorem ownsR_ge {B : Nat} {w : World} {v : Value} {rs : List RecD} (h : OwnsR B w v rs) : ∀ k, v.ownBlock = some k → B ≤ k ∧ k < w.heap.size := by
  intro k hk
  rcases h.2 with ⟨rfl, hn⟩ | ⟨g, cap, cur, rfl, hB, hh, _⟩
  · cases hk
  · injection hk with hk
    subst hk
    exact ⟨hB, (Array.getElem?_eq_some_iff.1 hh).1⟩
theorem bytes_nows {st : St} (h : BytesD st) : ∀ z ∈ nows st, isBytes z := by
  unfold nows
  obtain ⟨h1, h2⟩ := h
  generalize st.cache = ws at h2
  generalize st.safe = s at h1
  induction ws generalizing s with
  | nil => exact h1
  | cons p ws ih =>
    refine ih (fun q hq => h2 q (List.mem_cons_of_mem _ hq)) _ ?_
    intro z hz
    rcases List.mem_or_eq_of_mem_set hz with h | h
    · exact h1 z h
    · rw [h]; exact h2 p List.mem_cons_self
theorem bytes_flush {st : St} (h : BytesD st) : BytesD (flushS st) := ⟨bytes_nows h, fun p hp => by cases hp⟩
theorem bytes_crash {st : St} (h : BytesD st) (keep tear : Int) : BytesD (crashS st keep tear) := by
  refine ⟨?_, fun p hp => by cases hp⟩
  show ∀ z ∈ crashL st.safe st.cache keep tear, isBytes z
  unfold crashL
  split
  · exact bytes_nows h
  · rename_i p hp
    have h1 : ∀ z ∈ carry st.safe (st.cache.take (keptOf keep st.cache.length)), isBytes z := bytes_nows (st := ⟨st.safe, st.cache.take (keptOf keep st.cache.length)⟩) ⟨h.1, fun q hq => h.2 q (List.mem_of_mem_take hq)⟩
    intro z hz
    rcases List.mem_or_eq_of_mem_set hz with h2 | h2
    · exact h1 z h2
    · rw [h2]
      refine ((h.2 p (List.mem_of_getElem? hp)).take _).append (isBytes.drop ?_ _)
      intro y hy
      unfold secAt at hy
      cases e : (carry st.safe (st.cache.take (keptOf keep st.cache.length)))[p.1]? with
      | none => rw [e] at hy; cases hy
      | some u => rw [e] at hy; exact h1 u (List.mem_of_getElem? e) y hy
theorem Stay.refl (X : Nat → Prop) (w : World) : Stay X w w := ⟨Nat.le_refl _, fun _ _ _ => rfl⟩
theorem Stay.trans {X : Nat → Prop} {a b c : World} (h : Stay X a b) (k : Stay X b c) : Stay X a c := ⟨Nat.le_trans h.1 k.1, fun i hi hlt => (k.2 i hi (Nat.lt_of_lt_of_le hlt h.1)).trans (h.2 i hi hlt)⟩
theorem Stay.goodR {X : Nat → Prop} {w w' : World} (h : Stay X w w') {A : Option Addr} {c : Nat} {rs : List RecD} (g : GoodR A c rs w) (hA : ∀ b off, A = some ⟨b, off, none⟩ → X b ∧ b < w.heap.size) : GoodR A c rs w' := goodR_stay g h.1 fun b off e => h.2 b (hA b off e).1 (hA b off e).2
theorem Stay.ownsR {X : Nat → Prop} {w w' : World} (h : Stay X w w') {B : Nat} {v : Value} {rs : List RecD} (g : OwnsR B w v rs) (hA : ∀ k, v.ownBlock = some k → X k) : OwnsR B w' v rs := ownsR_stay g fun k e => h.2 k (hA k e) (ownsR_ge g k e).2
theorem LHas.keep {LI : World → (Nat → Prop) → Nat → Nat → LogD → Prop} (S : WalOK LI) {B : Nat} {w0 : World} {X : Nat → Prop} {w w' : World} {lb db N : Nat} {st : St} {lg : LogD} (h : LHas LI B w0 X w lb db N st lg) (hb : Below w.heap.size w w') : LHas LI B w0 X w' lb db N st lg := by
  obtain ⟨FL, FD, hs, h1, h2⟩ := h.ex
  exact ⟨⟨FL, FD, hs.below S hb, h1, h2⟩, h.below.trans (hb.mono h.size), Nat.le_trans h.size hb.size⟩
theorem LHas.addX {LI : World → (Nat → Prop) → Nat → Nat → LogD → Prop} (S : WalOK LI) {B : Nat} {w0 : World} {X X' : Nat → Prop} {w : World} {lb db N : Nat} {st : St} {lg : LogD} (h : LHas LI B w0 X w lb db N st lg) (hX : ∀ k, X' k → X k ∨ w.heap.size ≤ k) : LHas LI B w0 X' w lb db N st lg := by
  obtain ⟨FL, FD, hs, h1, h2⟩ := h.ex
  refine ⟨⟨FL, FD, hs, fun k hk => ⟨(h1 k hk).1, fun x => ?_⟩, fun k hk => ⟨(h2 k hk).1, fun x => ?_⟩⟩, h.below, h.size⟩
  · rcases hX k x with a | a
    · exact (h1 k hk).2 a
    · have := S.lt hs.log k hk; omega
  · rcases hX k x with a | a
    · exact (h2 k hk).2 a
    · have := hs.disk.lt k hk; omega
/-- A disk alone, and blocks X that must stay. -/
structure DHas (B : Nat) (w0 : World) (X : Nat → Prop) (w : World) (db N : Nat) (st : St) : Prop where
  ex : ∃ FD, DiskAt w FD db N st ∧ (∀ k, FD k → B ≤ k ∧ ¬ X k)
  bytes : BytesD st
  below : Below B w0 w
  size : B ≤ w.heap.size
theorem LHas.disk {LI : World → (Nat → Prop) → Nat → Nat → LogD → Prop} {B : Nat} {w0 : World} {X : Nat → Prop} {w : World} {lb db N : Nat} {st : St} {lg : LogD} (h : LHas LI B w0 X w lb db N st lg) : DHas B w0 X w db N st := by
  obtain ⟨FL, FD, hs, h1, h2⟩ := h.ex
  exact ⟨⟨FD, hs.disk, h2⟩, hs.bytes, h.below, h.size⟩
theorem DHas.crash {B : Nat} {w0 : World} {X : Nat → Prop} {w : World} {db N : Nat} {st : St} (h : DHas B w0 X w db N st) (hX : ∀ k, X k → k < w.heap.size) (keep tear : Int) (hc : st.cache.length ≤ 1000) :
    Calls Tryz.prog 16 #[.pointer (some ⟨db, 0, none⟩), .int .i64 keep, .int .i64 tear] w fun e w' => e = .returned (.tuple #[]) ∧ DHas B w0 X w' db N (crashS st keep tear) ∧ Stay X w w' := by
  obtain ⟨FD, hd, h2⟩ := h.ex
  refine (crash_any FD db N st keep tear w hd hc).mono ?_
  rintro e w' ⟨rfl, hd', hm⟩
  have hb : Below B w w' := hm.below h.size (fun k hk => (h2 k hk).1)
  refine ⟨rfl, ⟨⟨_, hd', fun k hk => ?_⟩, bytes_crash h.bytes keep tear, h.below.trans hb, Nat.le_trans h.size hm.size⟩, hm.size, fun k hk hlt => hm.block k hlt (fun a => (h2 k a).2 hk)⟩
  rcases hk with a | ⟨a, _⟩
  · exact h2 k a
  · exact ⟨Nat.le_trans h.size a, fun x => absurd (hX k x) (by omega)⟩
theorem DHas.opens {LI : World → (Nat → Prop) → Nat → Nat → LogD → Prop} (S : WalOK LI) {B : Nat} {w0 : World} {X : Nat → Prop} {w : World} {db N : Nat} {st : St} (h : DHas B w0 X w db N st) (hX : ∀ k, X k → k < w.heap.size) {lg : LogD} {rs : List RecD} (ht : tells (nows st) = some (lg, rs)) (hok : LogOK N lg) :
    Calls Tryz.prog 8 #[.pointer (some ⟨db, 0, none⟩)] w fun e w' => ∃ lb v, e = .returned (.tuple #[.pointer (some ⟨lb, 0, none⟩), v, .int .i64 0]) ∧ OwnsR w.heap.size w' v rs ∧ LHas LI B w0 (fun k => X k ∨ v.ownBlock = some k) w' lb db N st lg ∧ Below w.heap.size w w' := by
  obtain ⟨FD, hd, h2⟩ := h.ex
  refine (S.open_yes FD db N st lg rs w hd h.bytes ht).mono ?_
  rintro e w' ⟨lb, v, FL, rfl, hl, hge, ho, hv, k⟩
  refine ⟨lb, v, rfl, ho, ⟨⟨FL, FD, ⟨hl, hd.below k, fun i hi hi2 => absurd (hge i hi) (by have := hd.lt i hi2; omega), hok, h.bytes⟩, fun i hi => ⟨Nat.le_trans h.size (hge i hi), ?_⟩, fun i hi => ⟨(h2 i hi).1, ?_⟩⟩, h.below.trans (k.mono h.size), Nat.le_trans h.size k.size⟩, k⟩
  · rintro (a | a)
    · have := hX i a; have := hge i hi; omega
    · exact hv i a hi
  · rintro (a | a)
    · exact (h2 i hi).2 a
    · have := (ownsR_ge ho i a).1; have := hd.lt i hi; omega
end Go.Proofs.YtdmkkfpbgpijjaaGreat
