/- A log as plain mathematics: what Append, Force and Checkpoint do; a log that was only appended to, cut by a crash, opened, and appended to again. No program. A log as plain mathematics, gone on: appended to behind a crash; checkpointed, and cut by a crash; checkpointed again and again, round its disk. No program. What layer 5's calls answer, as one bundle (WalOK), which the walks of the statements take: LI says where a log lies in memory (its blocks F, its own place, its disk's place, its numbers). What the statements of layer 5 call of their own: begin (a log on a new disk). A log and its disk among other things in memory: what stays over a call; a crash, and an Open behind it. rec.All: the records of bytes, for every bytes. rec.Join: the bytes of records, for every list of records. Lists of records compared (SameRecs); several rows of one's own at once: appended one by one. alive, of the statements of layer 5: a log of a commit, and a checkpoint. The document's own Right: for every record. The walk of the statement WalRight, over the bundle of what layer 5's calls answer. The walk of the statement WalRing, over the bundle of what layer 5's calls answer. Lists of records appended to a row of one's own, beside a log; lists of lists of records that come in. Lists of lists of records that come in, for a statement's frame. What layer 2's Open answers, for the stages above it. The document's own answers for layer 2: exclusive or bit by bit, More, Sum, Three, Seal, Open. (for the stages above layer 2) What the landed calls More and Sum of layer 2 answer, for every input. (for the stages above layer 2) What the library's calls answer that layer 2 uses: bytes.Equal, bytes.Clone, slices.Grow of nil, slices.Concat of two. (for the stages above layer 2) What layer 2's landed calls answer, for every input: the bundle SumOK that the statements' walks take. (for the stages above layer 2) wal, small functions: numberOf, readNumber, placeOf, sectorsFor; slices.Concat of many. wal: a log's sector as bytes: (sector).bytes. wal: readSector: the sector of a disk's bytes, if they are a log's. What wal.Open finds on a disk, said in the order in which the program looks for it. No program. wal: sectors in memory; what stands at each place (sectorsOf), the one with the greatest number (lastOf). wal: the sector with the greatest number (lastOf); the sectors from the first that counts up to it (countingOf). -/
import Derived.Test.YtdmkkfpbgpijjaaMab
import Derived.Test.YtdmkkfpbgpijjaaMaa
import Derived.Maps.AppendAt
import Derived.Laws.AppendOwnNone
import Derived.Lib.AppendZeros
import Derived.Lib.SliceRun
import Derived.Lib.Bytes
import Derived.Laws.BytesArg
import Derived.Deep.RegionHeld3
namespace Go.Proofs.Ytdmkkfpbgpijjaa
set_option linter.unusedVariables false

def nOf (rs : List RecD) : Nat := secsN (joinL rs)
/-- The error of records in so many sectors more. -/
def fitsE (N : Nat) (lg : LogD) (rs : List RecD) (more : Nat) (spare : Int) : Int :=
  if rs.all rightB = false then 10 else if spare < 0 then 11
  else if (N : Int) - lg.next + lg.sure - nOf rs - more < spare ∨ 4294967296 < lg.next + nOf rs + more then 15 else 0
def appL (lg : LogD) (rs : List RecD) : LogD := ⟨lg.next + nOf rs, lg.first, lg.sure⟩
def appS (N : Nat) (lg : LogD) (st : St) (rs : List RecD) : St := ⟨st.safe, st.cache ++ puts N (laySecs lg.next lg.first (joinL rs))⟩
def chkSecs (lg : LogD) (rs : List RecD) : List Sec := laySecs lg.next lg.first (joinL rs) ++ [⟨lg.next + nOf rs, lg.next, [], true⟩]
def chkL (lg : LogD) (rs : List RecD) : LogD := ⟨lg.next + nOf rs + 1, lg.next, lg.sure⟩
def chkS (N : Nat) (lg : LogD) (st : St) (rs : List RecD) : St := ⟨st.safe, st.cache ++ puts N (chkSecs lg rs)⟩
def forL (lg : LogD) : LogD := ⟨lg.next, lg.first, lg.first⟩

theorem fits_ok {N : Nat} {lg : LogD} {rs : List RecD} {more : Nat} {spare : Int} (h : fitsE N lg rs more spare = 0) : rs.all rightB = true ∧ 0 ≤ spare ∧ spare ≤ (N : Int) - lg.next + lg.sure - nOf rs - more ∧ lg.next + nOf rs + more ≤ 4294967296 := by
  unfold fitsE at h
  by_cases h1 : rs.all rightB = false
  · rw [if_pos h1] at h; omega
  · rw [if_neg h1] at h
    by_cases h2 : spare < 0
    · rw [if_pos h2] at h; omega
    · rw [if_neg h2] at h
      by_cases h3 : (N : Int) - lg.next + lg.sure - nOf rs - more < spare ∨ 4294967296 < lg.next + nOf rs + more
      · rw [if_pos h3] at h; omega
      · exact ⟨by simpa using h1, by omega, by omega, by omega⟩
theorem rightL_of {rs : List RecD} (h : rs.all rightB = true) (ok : ∀ r ∈ rs, okR r) : RightL rs := fun r hr => ⟨by rw [List.all_eq_true] at h; exact h r hr, ok r hr⟩
theorem layAt_ok (next first : Nat) (b : List Int) (hb : isBytes b) (i : Nat) (hn : next + i < 4294967296) (hf : first < 4294967296) : okS (layAt next first b i) :=
  ⟨hn, hf, by show ((b.drop (16 * i)).take 16).length ≤ 16; rw [List.length_take]; omega, ((hb.drop _).take _)⟩
theorem laySecs_ok (next first : Nat) (b : List Int) (hb : isBytes b) (hn : next + secsN b ≤ 4294967296) (hf : first < 4294967296) : ∀ s ∈ laySecs next first b, okS s := by
  intro s hs
  simp only [laySecs, List.mem_map, List.mem_range] at hs
  obtain ⟨i, hi, rfl⟩ := hs
  exact layAt_ok next first b hb i (by omega) hf
theorem laySecs_at (next first : Nat) (b : List Int) (i : Nat) (h : i < (laySecs next first b).length) : (laySecs next first b)[i] = layAt next first b i := by simp [laySecs]
theorem rights_bytes {rs : List RecD} (h : RightL rs) : isBytes (joinL rs) := joinL_bytes rs fun r hr => (h r hr).2
theorem secsRows_ok (R : List (List RecD)) (hR : ∀ l ∈ R, RightL l) (first : Nat) (hf : first < 4294967296) : ∀ next, next + rowsN R ≤ 4294967296 → ∀ s ∈ secsRows next first R, okS s := by
  induction R with
  | nil => intro _ _ s hs; cases hs
  | cons r R ih =>
    intro next hn s hs
    rw [rowsN] at hn
    rw [secsRows, List.mem_append] at hs
    rcases hs with hs | hs
    · exact laySecs_ok next first _ (rights_bytes (hR r (by simp))) (by omega) hf s hs
    · exact ih (fun l hl => hR l (by simp [hl])) _ (by omega) s hs
/-- Sectors have the numbers from f on. -/
def From (f : Nat) (L : List Sec) : Prop := ∀ i (h : i < L.length), L[i].n = f + i
theorem From.append {f : Nat} {L M : List Sec} (h : From f L) (k : From (f + L.length) M) : From f (L ++ M) := fun i hi => by
  rw [List.getElem_append]
  split
  · rename_i h1; exact h i h1
  · rename_i h1
    have := k (i - L.length) (by rw [List.length_append] at hi; omega)
    rw [this]; omega
theorem from_lay (next first : Nat) (b : List Int) : From next (laySecs next first b) := fun i h => by rw [laySecs_at _ _ _ _ h]; rfl
theorem from_rows (R : List (List RecD)) (first : Nat) : ∀ next, From next (secsRows next first R) := by
  induction R with
  | nil => intro next i h; cases h
  | cons r R ih =>
    intro next
    rw [secsRows]
    refine (from_lay next first _).append ?_
    rw [laySecs_length]
    exact ih _
theorem From.numbered {L : List Sec} (h : From 1 L) : Numbered L := fun i hi => by rw [h i hi]; omega
theorem firsts_lay (next first : Nat) (b : List Int) : ∀ s ∈ laySecs next first b, s.first = first := by
  intro s hs
  simp only [laySecs, List.mem_map] at hs
  obtain ⟨i, _, rfl⟩ := hs
  rfl
theorem firsts_rows (R : List (List RecD)) (first : Nat) : ∀ next, ∀ s ∈ secsRows next first R, s.first = first := by
  induction R with
  | nil => intro _ s hs; cases hs
  | cons r R ih =>
    intro next s hs
    rw [secsRows, List.mem_append] at hs
    rcases hs with hs | hs
    · exact firsts_lay _ _ _ s hs
    · exact ih _ s hs

/-- What is on a disk is told: sectors 1 to m, all of which tell the first one as the first. -/
theorem ond_tells {N : Nat} {S : List (List Int)} {L : List Sec} {m : Nat} (h : OnD N S L m) (hL : Numbered L) (ok : ∀ s ∈ L, okS s) (hf : ∀ s ∈ L.take m, s.first = 1) (rs : List RecD) (hr : tellR (L.take m) = some rs) (h0 : m = 0 → rs = []) :
    tells S = some (⟨m + 1, 1, 1⟩, rs) := by
  rcases Nat.eq_zero_or_pos m with hm | hm
  · subst hm
    rw [h0 rfl]
    exact tells_none S fun i hi => h.rest i (Nat.zero_le _) (by rw [← h.len]; exact hi)
  · have hl := h.le
    have hlt := h.lt
    have hlen : (L.take m).length = m := by rw [List.length_take]; omega
    refine tells_of S 1 m (L.take m) rs (Nat.le_refl _) hm (by rw [h.len]; omega) (by rw [hlen]; omega) (fun i hi => ?_) (fun hi => hf _ (List.getElem_mem hi)) (fun i hi => ?_) hr
    · rw [hlen] at hi
      rw [List.getElem_take, Nat.add_comm]
      exact secN_at h.len (by omega) (ok _ (List.getElem_mem _)) (hL i (by omega)) (h.at_ i hi)
    · rw [h.len] at hi
      rcases Nat.lt_or_ge i m with h1 | h1
      · rw [counts_le h.len hi (ok _ (List.getElem_mem (by omega))) (hL i (by omega)) (h.at_ i h1)]
        omega
      · rw [h.rest i h1 hi]; omega

/-- A log that was only appended to: the lists R, of which k sectors last. -/
structure App (N : Nat) (R : List (List RecD)) (k : Nat) (lg : LogD) (st : St) : Prop where
  lg : lg = ⟨1 + rowsN R, 1, 1⟩
  le : rowsN R ≤ N
  kle : k ≤ rowsN R
  right : ∀ l ∈ R, RightL l
  safe : st.safe = carry (zeroD N) (puts N ((secsRows 1 1 R).take k))
  cache : st.cache = puts N ((secsRows 1 1 R).drop k)
theorem App.start (N : Nat) : App N [] 0 ⟨1, 1, 1⟩ ⟨zeroD N, []⟩ := ⟨rfl, Nat.zero_le _, Nat.le_refl _, (fun l hl => by cases hl), rfl, rfl⟩
theorem App.append {N : Nat} {R : List (List RecD)} {k : Nat} {lg : LogD} {st : St} (h : App N R k lg st) {rs : List RecD} (ok : ∀ r ∈ rs, okR r) {spare : Int} (hf : fitsE N lg rs 0 spare = 0) : App N (R ++ [rs]) k (appL lg rs) (appS N lg st rs) := by
  obtain ⟨f1, f2, f3, f4⟩ := fits_ok hf
  have e := h.lg
  subst e
  dsimp only at f3 f4
  refine ⟨?_, ?_, ?_, ?_, ?_, ?_⟩
  · simp only [appL, rowsN_snoc, nOf]; congr 1; omega
  · rw [rowsN_snoc]; unfold nOf at f3; omega
  · rw [rowsN_snoc]; have := h.kle; omega
  · intro l hl
    rw [List.mem_append, List.mem_singleton] at hl
    rcases hl with hl | rfl
    · exact h.right l hl
    · exact rightL_of f1 ok
  · show st.safe = _
    rw [h.safe, secsRows_snoc, List.take_append_of_le_length (by rw [secsRows_length]; exact h.kle)]
  · show st.cache ++ _ = _
    rw [h.cache, secsRows_snoc, List.drop_append_of_le_length (by rw [secsRows_length]; exact h.kle), puts_append]
theorem App.nows_eq {N : Nat} {R : List (List RecD)} {k : Nat} {lg : LogD} {st : St} (h : App N R k lg st) : nows st = carry (zeroD N) (puts N (secsRows 1 1 R)) := by
  unfold nows
  rw [h.safe, h.cache, ← carry_append, ← puts_append, List.take_append_drop]
theorem App.force {N : Nat} {R : List (List RecD)} {k : Nat} {lg : LogD} {st : St} (h : App N R k lg st) : App N R (rowsN R) (forL lg) (flushS st) := by
  have hl := secsRows_length R 1 1
  refine ⟨by rw [h.lg]; rfl, h.le, Nat.le_refl _, h.right, ?_, ?_⟩
  · show nows st = _
    rw [h.nows_eq, List.take_of_length_le (by omega)]
  · show [] = _
    rw [List.drop_of_length_le (by omega)]; rfl
theorem App.cache_le {N : Nat} {R : List (List RecD)} {k : Nat} {lg : LogD} {st : St} (h : App N R k lg st) : st.cache.length ≤ N := by
  rw [h.cache, puts_length, List.length_drop, secsRows_length]
  have := h.le
  omega
theorem tell_first (R : List (List RecD)) (hR : ∀ l ∈ R, RightL l) (m : Nat) (hm : m ≤ rowsN R) :
    ∃ q, q ≤ R.flatten.length ∧ tellR ((secsRows 1 1 R).take m) = some (R.flatten.take q) ∧ (∀ j, rowsN (R.take j) ≤ m → (R.take j).flatten.length ≤ q) ∧ (m = 0 → R.flatten.take q = []) := by
  obtain ⟨q, h1, h2, h3, h4⟩ := tell_rows R 1 hR 1 [] m hm row_nil.2
  refine ⟨q, h1, ?_, h4, fun h0 => ?_⟩
  · unfold tellR
    rw [h2, if_pos rfl, h3, row_nil.1, List.nil_append]
  · subst h0
    simp only [List.take_zero, rowsAcc, List.flatMap_cons, List.flatMap_nil, List.append_nil] at h3
    rw [row_nil.1, List.nil_append] at h3
    exact h3.symm
/-- Behind any crash a log that was only appended to tells all that lasted, and a beginning of the rest; the sectors 1 to m are on the disk. -/
theorem App.crash {N : Nat} {R : List (List RecD)} {k : Nat} {lg : LogD} {st : St} (h : App N R k lg st) (hN : N ≤ 512) (keep tear : Int) :
    ∃ m q, m ≤ rowsN R ∧ q ≤ R.flatten.length ∧ (∀ j, rowsN (R.take j) ≤ k → (R.take j).flatten.length ≤ q) ∧ OnD N (crashS st keep tear).safe (secsRows 1 1 R) m ∧ tellR ((secsRows 1 1 R).take m) = some (R.flatten.take q) ∧ tells (nows (crashS st keep tear)) = some (⟨m + 1, 1, 1⟩, R.flatten.take q) := by
  have hle := h.le
  have hl := secsRows_length R 1 1
  have hok := secsRows_ok R h.right 1 (by omega) 1 (by omega)
  have hnum := (from_rows R 1 1).numbered
  obtain ⟨m, hkm, hon⟩ := crash_on N (secsRows 1 1 R) hnum hok (by omega) k (by rw [hl]; exact h.kle) keep tear
  have hm : m ≤ rowsN R := by have := hon.le; omega
  obtain ⟨q, q1, q2, q3, q4⟩ := tell_first R h.right m hm
  have es : (crashS st keep tear).safe = crashL (carry (zeroD N) (puts N ((secsRows 1 1 R).take k))) (puts N ((secsRows 1 1 R).drop k)) keep tear := by
    show crashL st.safe st.cache keep tear = _
    rw [h.safe, h.cache]
  rw [← es] at hon
  refine ⟨m, q, hm, q1, fun j hj => q3 j (by omega), hon, q2, ?_⟩
  exact ond_tells hon hnum hok (fun s hs => firsts_rows R 1 1 s (List.mem_of_mem_take hs)) _ q2 q4
end Go.Proofs.Ytdmkkfpbgpijjaa
namespace Go.Proofs.Ytdmkkfpbgpijjaa
set_option linter.unusedVariables false

/-! ### sectors written over a disk -/
theorem place_inj {N f i j : Nat} (hf : 1 ≤ f) (hi : i < N) (hj : j < N) (h : placeOf N (f + i) = placeOf N (f + j)) : i = j := by
  unfold placeOf at h
  rw [show f + i - 1 = (f - 1) + i by omega, show f + j - 1 = (f - 1) + j by omega] at h
  have h1 := Nat.div_add_mod (f - 1 + i) N
  have h2 := Nat.div_add_mod (f - 1 + j) N
  have h3 : (f - 1 + i) / N = (f - 1 + j) / N ∨ (f - 1 + i) / N + 1 ≤ (f - 1 + j) / N ∨ (f - 1 + j) / N + 1 ≤ (f - 1 + i) / N := by omega
  rcases h3 with h3 | h3 | h3
  · rw [h3] at h1; omega
  · have h4 := Nat.mul_le_mul_left N h3
    rw [Nat.mul_add, Nat.mul_one] at h4
    omega
  · have h4 := Nat.mul_le_mul_left N h3
    rw [Nat.mul_add, Nat.mul_one] at h4
    omega
theorem puts_mem {N f : Nat} {M : List Sec} (hM : From f M) {p : Nat × List Int} (hp : p ∈ puts N M) : ∃ i, ∃ h : i < M.length, p = (placeOf N (f + i), secL M[i]) := by
  simp only [puts, List.mem_map] at hp
  obtain ⟨s, hs, rfl⟩ := hp
  obtain ⟨i, hi, rfl⟩ := List.getElem_of_mem hs
  exact ⟨i, hi, by rw [hM i hi]⟩
theorem lastIn_puts {N f : Nat} (hf : 1 ≤ f) : ∀ {M : List Sec}, From f M → M.length ≤ N → ∀ i (h : i < M.length), lastIn (placeOf N (f + i)) (puts N M) = some (secL M[i]) := by
  intro M hM hN i hi
  have key : ∀ k, k ≤ M.length → i < k → lastIn (placeOf N (f + i)) (puts N (M.take k)) = some (secL M[i]) := by
    intro k
    induction k with
    | zero => intro _ h; omega
    | succ k ih =>
      intro hk hik
      have hk' : k < M.length := by omega
      rw [List.take_succ_eq_append_getElem hk', puts_append]
      have e1 : puts N [M[k]] = [(placeOf N (f + k), secL M[k])] := by simp only [puts, List.map_cons, List.map_nil]; rw [hM k hk']
      rw [e1, lastIn_snoc]
      by_cases h : i = k
      · subst h; simp
      · rw [if_neg (fun e => h (place_inj hf (by omega) (by omega) e.symm)), ih (by omega) (by omega)]
  have := key M.length (Nat.le_refl _) hi
  rwa [List.take_length] at this
theorem lastIn_other {N f : Nat} {M : List Sec} (hM : From f M) {p : Nat} (h : ∀ i, i < M.length → placeOf N (f + i) ≠ p) : lastIn p (puts N M) = none := by
  cases e : lastIn p (puts N M) with
  | none => rfl
  | some z =>
    have h1 := lastIn_mem p _ z e
    obtain ⟨i, hi, h2⟩ := puts_mem hM h1
    injection h2 with h2 h3
    exact absurd h2.symm (h i hi)
theorem put_at {N f : Nat} {S : List (List Int)} {M : List Sec} (hl : S.length = N) (hf : 1 ≤ f) (hM : From f M) (hN : M.length ≤ N) (i : Nat) (h : i < M.length) : secAt (carry S (puts N M)) (placeOf N (f + i)) = secL M[i] := by
  rw [carry_at _ _ _ (by rw [hl]; exact placeOf_lt _ _ (by omega)), lastIn_puts hf hM hN i h]
  rfl
theorem put_other {N f : Nat} {S : List (List Int)} {M : List Sec} (hl : S.length = N) (hM : From f M) {p : Nat} (hp : p < N) (h : ∀ i, i < M.length → placeOf N (f + i) ≠ p) : secAt (carry S (puts N M)) p = secAt S p := by
  rw [carry_at _ _ _ (by omega), lastIn_other hM h]
  rfl
theorem counts_same {S S' : List (List Int)} {i : Nat} (hl : S'.length = S.length) (h : secAt S' i = secAt S i) : counts S' i = counts S i := by
  unfold counts
  rw [h, hl]
theorem put_secN {N f : Nat} {S : List (List Int)} {M : List Sec} (hl : S.length = N) (hf : 1 ≤ f) (hM : From f M) (ok : ∀ s ∈ M, okS s) (hN : M.length ≤ N) (i : Nat) (h : i < M.length) : secN (carry S (puts N M)) (f + i) = some M[i] := by
  unfold secN
  rw [length_carry, hl, put_at hl hf hM hN i h, read_sec (ok _ (List.getElem_mem h))]
  simp [hM i h]
theorem put_counts {N f b : Nat} {S : List (List Int)} {M : List Sec} (hl : S.length = N) (hf : 1 ≤ f) (hM : From f M) (ok : ∀ s ∈ M, okS s) (hN : M.length ≤ N) (hb : ∀ i, i < N → counts S i ≤ b) (hbf : b ≤ f + M.length - 1) (p : Nat) (hp : p < N) : counts (carry S (puts N M)) p ≤ f + M.length - 1 := by
  have hlc : (carry S (puts N M)).length = S.length := length_carry _ _
  by_cases h : ∃ i, i < M.length ∧ placeOf N (f + i) = p
  · obtain ⟨i, hi, rfl⟩ := h
    have h1 := put_secN hl hf hM ok hN i hi
    have h2 := counts_sec h1 (by omega)
    rw [hlc, hl] at h2
    rw [h2]; omega
  · have h1 := put_other hl hM hp (fun i hi e => h ⟨i, hi, e⟩)
    rw [counts_same hlc h1]
    have := hb p hp
    omega
theorem place_small {N n : Nat} (h1 : 1 ≤ n) (h2 : n ≤ N) : placeOf N n = n - 1 := Nat.mod_eq_of_lt (by omega)
/-- Sectors m+1, .. written behind the first m. -/
theorem ond_put {N : Nat} {S : List (List Int)} {L M : List Sec} {m : Nat} (h : OnD N S L m) (hM : From (m + 1) M) (hN : m + M.length ≤ N) : OnD N (carry S (puts N M)) (L.take m ++ M) (m + M.length) := by
  have hlt : (L.take m).length = m := by rw [List.length_take]; have := h.le; omega
  have hpl : ∀ i, i < M.length → placeOf N (m + 1 + i) = m + i := fun i hi => by rw [place_small (by omega) (by omega)]; omega
  refine ⟨by rw [length_carry, h.len], by rw [List.length_append, hlt]; omega, by rw [List.length_append, hlt]; exact hN, fun i hi => ?_, fun i h1 h2 => ?_⟩
  · rw [List.getElem_append]
    split
    · rename_i h1
      rw [hlt] at h1
      rw [put_other h.len hM (by omega) (fun j hj => by rw [hpl j hj]; omega), List.getElem_take]
      exact h.at_ i h1
    · rename_i h1
      rw [hlt] at h1
      have := put_at h.len (by omega) hM (by omega) (i - m) (by omega)
      rw [hpl _ (by omega), show m + (i - m) = i by omega] at this
      rw [this]
      congr 2
      rw [hlt]
  · rw [counts_same (length_carry _ _) (put_other h.len hM h2 (fun j hj => by rw [hpl j hj]; omega))]
    exact h.rest i (by omega) h2

/-! ### records behind others -/
theorem rows_full (next first : Nat) (rs : List RecD) (h : RightL rs) : (rowsAcc [] (laySecs next first (joinL rs))).all rowOK = true ∧ (rowsAcc [] (laySecs next first (joinL rs))).flatMap recsL = rs := by
  obtain ⟨q, h1, h2, h3, h4⟩ := tell_rows [rs] first (fun l hl => by simp at hl; subst hl; exact h) next [] (rowsN [rs]) (Nat.le_refl _) row_nil.2
  have e : (secsRows next first [rs]).take (rowsN [rs]) = laySecs next first (joinL rs) := by
    rw [List.take_of_length_le (by rw [secsRows_length]; exact Nat.le_refl _)]
    simp [secsRows]
  rw [e] at h2 h3
  refine ⟨h2, ?_⟩
  rw [h3, row_nil.1, List.nil_append]
  have h5 := h4 1 (by simp)
  simp at h1 h5 ⊢
  exact List.take_of_length_le h5
theorem laySecs_cons {next first : Nat} {b : List Int} (h : 0 < secsN b) : ∃ y ys, laySecs next first b = y :: ys ∧ y.beg = true := by
  obtain ⟨k, hk⟩ : ∃ k, secsN b = k + 1 := ⟨secsN b - 1, by omega⟩
  refine ⟨layAt next first b 0, (List.range' 1 k).map (layAt next first b), ?_, rfl⟩
  unfold laySecs
  rw [hk, List.range_eq_range', List.range'_succ, List.map_cons]
/-- Records appended behind sectors that tell some. -/
theorem tellR_more {xs : List Sec} {rs : List RecD} (h : tellR xs = some rs) (next first : Nat) {more : List RecD} (hr : RightL more) : tellR (xs ++ laySecs next first (joinL more)) = some (rs ++ more) := by
  rcases Nat.eq_zero_or_pos (secsN (joinL more)) with h0 | h0
  · have e := join_nil (secsN_nil _ h0)
    subst e
    have e2 : laySecs next first (joinL ([] : List RecD)) = [] := by unfold laySecs; rw [h0]; rfl
    rw [e2, List.append_nil, List.append_nil, h]
  · obtain ⟨y, ys, e, hy⟩ := laySecs_cons (next := next) (first := first) h0
    obtain ⟨r1, r2⟩ := rows_full next first more hr
    rw [e] at r1 r2 ⊢
    have e0 := rowsAcc_app [] y ys hy []
    rw [List.nil_append] at e0
    rw [e0] at r1 r2
    have en : rowsAcc [] ([] : List Sec) = [[]] := rfl
    rw [en] at r1 r2
    rw [List.all_append, Bool.and_eq_true] at r1
    rw [List.flatMap_append] at r2
    have en2 : ([[]] : List (List Int)).flatMap recsL = [] := by simp [row_nil.1]
    rw [en2, List.nil_append] at r2
    unfold tellR at h ⊢
    rw [rowsAcc_app xs y ys hy, List.all_append, List.flatMap_append, r2, r1.2, Bool.and_true]
    split at h
    · rename_i h3
      injection h with h
      rw [if_pos h3, h]
    · cases h
/-- Opened behind a crash, appended to and forced: what was told, and the rest behind it. -/
theorem App.again {N : Nat} {R : List (List RecD)} (hR : ∀ l ∈ R, RightL l) (hN : N ≤ 512) {S : List (List Int)} {m : Nat} {rs : List RecD} (h : OnD N S (secsRows 1 1 R) m) (ht : tellR ((secsRows 1 1 R).take m) = some rs) {more : List RecD} (ok : ∀ r ∈ more, okR r) {spare : Int} (hf : fitsE N ⟨m + 1, 1, 1⟩ more 0 spare = 0) :
    tells (nows (flushS (appS N ⟨m + 1, 1, 1⟩ ⟨S, []⟩ more))) = some (⟨m + 1 + nOf more, 1, 1⟩, rs ++ more) := by
  obtain ⟨f1, f2, f3, f4⟩ := fits_ok hf
  dsimp only at f3 f4
  have hr := rightL_of f1 ok
  have hle := h.le
  have hlt := h.lt
  rw [secsRows_length] at hle hlt
  have hml : m + (laySecs (m + 1) 1 (joinL more)).length ≤ N := by rw [laySecs_length]; unfold nOf at f3; omega
  have h1 := ond_put h (from_lay (m + 1) 1 (joinL more)) hml
  have e : nows (flushS (appS N ⟨m + 1, 1, 1⟩ ⟨S, []⟩ more)) = carry S (puts N (laySecs (m + 1) 1 (joinL more))) := rfl
  rw [e]
  have ht2 := tellR_more ht (m + 1) 1 hr
  have hlm : ((secsRows 1 1 R).take m).length = m := by rw [List.length_take, secsRows_length]; omega
  have hnum : Numbered ((secsRows 1 1 R).take m ++ laySecs (m + 1) 1 (joinL more)) := by
    apply From.numbered
    refine From.append (fun i hi => ?_) ?_
    · rw [List.getElem_take]; exact from_rows R 1 1 i (by rw [List.length_take] at hi; omega)
    · rw [hlm, Nat.add_comm]; exact from_lay _ _ _
  have hok : ∀ s ∈ (secsRows 1 1 R).take m ++ laySecs (m + 1) 1 (joinL more), okS s := by
    intro s hs
    rw [List.mem_append] at hs
    rcases hs with hs | hs
    · exact secsRows_ok R hR 1 (by omega) 1 (by omega) s (List.mem_of_mem_take hs)
    · exact laySecs_ok _ _ _ (rights_bytes hr) (by unfold nOf at f4; omega) (by omega) s hs
  have hfull : ((secsRows 1 1 R).take m ++ laySecs (m + 1) 1 (joinL more)).take (m + (laySecs (m + 1) 1 (joinL more)).length) = (secsRows 1 1 R).take m ++ laySecs (m + 1) 1 (joinL more) := List.take_of_length_le (by rw [List.length_append, hlm]; omega)
  have := ond_tells h1 hnum hok (fun s hs => by
    rw [hfull, List.mem_append] at hs
    rcases hs with hs | hs
    · exact firsts_rows R 1 1 s (List.mem_of_mem_take hs)
    · exact firsts_lay _ _ _ s hs) (rs ++ more) (by rw [hfull]; exact ht2) (fun h0 => by
      have hm0 : m = 0 := by omega
      have hn0 : secsN (joinL more) = 0 := by rw [laySecs_length] at h0; omega
      have e2 := join_nil (secsN_nil _ hn0)
      subst e2
      rw [hm0] at ht
      have e3 : tellR ((secsRows 1 1 R).take 0) = some [] := by
        unfold tellR
        simp [rowsAcc, row_nil.1, row_nil.2]
      rw [e3] at ht
      injection ht with ht
      rw [← ht]; rfl)
  rw [this, laySecs_length]
  unfold nOf
  congr 3
  omega

/-! ### a checkpoint -/
theorem from_chk (lg : LogD) (rs : List RecD) : From lg.next (chkSecs lg rs) := by
  unfold chkSecs
  refine (from_lay _ _ _).append ?_
  rw [laySecs_length]
  intro i hi
  simp at hi
  subst hi
  rfl
theorem chk_length (lg : LogD) (rs : List RecD) : (chkSecs lg rs).length = nOf rs + 1 := by simp [chkSecs, laySecs_length, nOf]
theorem chk_ok (lg : LogD) (rs : List RecD) (hr : RightL rs) (hn : lg.next + nOf rs + 1 ≤ 4294967296) (hf : lg.first < 4294967296) : ∀ s ∈ chkSecs lg rs, okS s := by
  intro s hs
  unfold chkSecs at hs
  rw [List.mem_append, List.mem_singleton] at hs
  rcases hs with hs | rfl
  · exact laySecs_ok _ _ _ (rights_bytes hr) (by unfold nOf at hn; omega) hf s hs
  · exact ⟨by dsimp only; omega, by dsimp only; omega, by simp, by intro z hz; cases hz⟩
/-- A checkpoint's sectors, and some of what was appended behind it. -/
theorem tellR_chk (lg : LogD) (rs more : List RecD) (hr : RightL rs) (hm : RightL more) (next first j : Nat) (hj : j ≤ nOf more) : ∃ q, q ≤ more.length ∧ tellR (chkSecs lg rs ++ (laySecs next first (joinL more)).take j) = some (rs ++ more.take q) ∧ (nOf more ≤ j → q = more.length) := by
  obtain ⟨q, h1, h2, h3, h4⟩ := tell_rows [more] first (fun l hl => by simp at hl; subst hl; exact hm) next [] j (by simpa [rowsN, nOf] using hj) row_nil.2
  have e : secsRows next first [more] = laySecs next first (joinL more) := by simp [secsRows]
  rw [e] at h2 h3
  obtain ⟨r1, r2⟩ := rows_full lg.next lg.first rs hr
  refine ⟨q, by simpa using h1, ?_, fun hge => ?_⟩
  · unfold chkSecs tellR
    rw [List.append_assoc, List.singleton_append, rowsAcc_app _ _ _ rfl, List.all_append, List.flatMap_append, r1, r2, h2, h3, row_nil.1]
    simp
  · have := h4 1 (by simpa [rowsN, nOf] using hge)
    simp at this h1
    omega

/-! ### round the disk -/
/-- A log that was checkpointed again and again with the same records, and forced each time. -/
structure Ring (N : Nat) (rs : List RecD) (lg : LogD) (S : List (List Int)) : Prop where
  len : S.length = N
  next : lg.first + nOf rs + 1 = lg.next
  sure : lg.sure = lg.first
  one : 1 ≤ lg.first
  fit : nOf rs + 1 ≤ N
  big : lg.next ≤ 4294967296
  secs : ∃ f, ∀ i (h : i < (chkSecs ⟨lg.first, f, 0⟩ rs).length), secN S (lg.first + i) = some (chkSecs ⟨lg.first, f, 0⟩ rs)[i]
  counts : ∀ i, i < N → counts S i ≤ lg.first + nOf rs
theorem Ring.tells {N : Nat} {rs : List RecD} {lg : LogD} {S : List (List Int)} (h : Ring N rs lg S) (hr : RightL rs) : tells S = some (lg, rs) := by
  obtain ⟨f, hs⟩ := h.secs
  obtain ⟨q, h1, h2, h3⟩ := tellR_chk ⟨lg.first, f, 0⟩ rs [] hr (fun r hr => by cases hr) 0 0 0 (Nat.zero_le _)
  simp only [List.take_zero, List.append_nil, List.take_nil] at h2
  have hl := chk_length ⟨lg.first, f, 0⟩ rs
  have := tells_of S lg.first (lg.first + nOf rs) _ rs h.one (by omega) (by rw [h.len]; have := h.fit; omega) (by rw [hl]; omega) hs (fun hi => ?_) (fun i hi => h.counts i (by rw [← h.len]; exact hi)) h2
  · rw [this]
    have e1 := h.next
    have e2 := h.sure
    cases lg
    dsimp only at *
    subst e2
    rw [← e1]
  · have e : lg.first + nOf rs - lg.first = nOf rs := by omega
    simp only [e]
    unfold chkSecs
    rw [List.getElem_append]
    rw [dif_neg (by rw [laySecs_length]; unfold nOf; omega)]
    simp
theorem Ring.begin {N : Nat} {rs : List RecD} {lg : LogD} {S : List (List Int)} {b : Nat} (hl : S.length = N) (h1 : 1 ≤ lg.next) (hr : RightL rs) (hfit : nOf rs + 1 ≤ N) (hbig : lg.next + nOf rs + 1 ≤ 4294967296) (hf : lg.first < 4294967296) (hc : ∀ i, i < N → Go.Proofs.Ytdmkkfpbgpijjaa.counts S i ≤ b) (hb : b < lg.next) :
    Ring N rs (forL (chkL lg rs)) (nows (flushS (chkS N lg ⟨S, []⟩ rs))) := by
  have e : nows (flushS (chkS N lg ⟨S, []⟩ rs)) = carry S (puts N (chkSecs lg rs)) := rfl
  have hlen := chk_length lg rs
  have hok := chk_ok lg rs hr hbig hf
  have hfr := from_chk lg rs
  rw [e]
  refine ⟨by rw [length_carry, hl], rfl, rfl, h1, hfit, hbig, ⟨lg.first, fun i h => ?_⟩, fun i hi => ?_⟩
  · exact put_secN hl h1 hfr hok (by omega) i h
  · have := put_counts hl h1 hfr hok (by omega) hc (by omega) i hi
    rw [hlen] at this
    show _ ≤ lg.next + nOf rs
    omega
end Go.Proofs.Ytdmkkfpbgpijjaa
namespace Go.Proofs.Ytdmkkfpbgpijjaa
open Go.RowKit Go.Deep
set_option linter.unusedVariables false

/-- Every byte of a disk is one. -/
def BytesD (st : St) : Prop := (∀ z ∈ st.safe, isBytes z) ∧ ∀ p ∈ st.cache, isBytes p.2
/-- A log's numbers, as they can be. -/
structure LogOK (N : Nat) (lg : LogD) : Prop where
  one : 1 ≤ lg.first
  sure1 : 1 ≤ lg.sure
  sure : lg.sure ≤ lg.next
  first : lg.first ≤ lg.next
  next : lg.next ≤ 4294967296
  room : lg.next ≤ lg.sure + N
/-- A log and its disk in memory, apart from each other. -/
structure LogSt (LI : World → (Nat → Prop) → Nat → Nat → LogD → Prop) (w : World) (FL FD : Nat → Prop) (lb db N : Nat) (st : St) (lg : LogD) : Prop where
  log : LI w FL lb db lg
  disk : DiskAt w FD db N st
  apart : ∀ k, FL k → ¬ FD k
  ok : LogOK N lg
  bytes : BytesD st
/-- A call on a log: what it answers, and what it leaves. -/
def LogDoes (LI : World → (Nat → Prop) → Nat → Nat → LogD → Prop) (FL FD : Nat → Prop) (lb db N : Nat) (st : St) (lg : LogD) (v : Value) (w : World) (e : Ending) (w' : World) : Prop :=
  e = .returned v ∧ Moves (fun k => FL k ∨ FD k) w w' ∧ ∃ FL' FD', LogSt LI w' FL' FD' lb db N st lg ∧ (∀ k, FL' k → FL k ∨ w.heap.size ≤ k) ∧ (∀ k, FD' k → FD k ∨ w.heap.size ≤ k)
def OpenYes (LI : World → (Nat → Prop) → Nat → Nat → LogD → Prop) (db : Nat) (lg : LogD) (rs : List RecD) (w : World) (e : Ending) (w' : World) : Prop :=
  ∃ lb v FL, e = .returned (.tuple #[.pointer (some ⟨lb, 0, none⟩), v, .int .i64 0]) ∧ LI w' FL lb db lg ∧ (∀ k, FL k → w.heap.size ≤ k) ∧ OwnsR w.heap.size w' v rs ∧ (∀ k, v.ownBlock = some k → ¬ FL k) ∧ Below w.heap.size w w'
structure WalOK (LI : World → (Nat → Prop) → Nat → Nat → LogD → Prop) : Prop where
  lt : ∀ {w : World} {F : Nat → Prop} {lb db : Nat} {lg : LogD}, LI w F lb db lg → ∀ k, F k → k < w.heap.size
  kept : ∀ {w w' : World} {F G : Nat → Prop} {lb db : Nat} {lg : LogD}, LI w F lb db lg → Moves G w w' → (∀ k, F k → ¬ G k) → LI w' F lb db lg
  open_yes : ∀ (FD : Nat → Prop) (db N : Nat) (st : St) (lg : LogD) (rs : List RecD) (w : World), DiskAt w FD db N st → BytesD st → tells (nows st) = some (lg, rs) → Calls Try.prog 13 #[.pointer (some ⟨db, 0, none⟩)] w (OpenYes LI db lg rs w)
  open_no : ∀ (FD : Nat → Prop) (db N : Nat) (st : St) (w : World), DiskAt w FD db N st → BytesD st → tells (nows st) = none → Calls Try.prog 13 #[.pointer (some ⟨db, 0, none⟩)] w fun e w' => e = .returned (.tuple #[.pointer none, .slice none 0 0, .int .i64 21]) ∧ Below w.heap.size w w'
  app_yes : ∀ (FL FD : Nat → Prop) (lb db N : Nat) (st : St) (lg : LogD) (A : Option Addr) (l c : Nat) (rs : List RecD) (spare : Int) (w : World), LogSt LI w FL FD lb db N st lg → rs.length = l → l ≤ 200 → (∀ r ∈ rs, okR r) → GoodR A c rs w → isI64 spare → st.cache.length + nOf rs ≤ 999 → fitsE N lg rs 0 spare = 0 →
    Calls Try.prog 10 #[.pointer (some ⟨lb, 0, none⟩), .slice A l c, .int .i64 spare] w (LogDoes LI FL FD lb db N (appS N lg st rs) (appL lg rs) (.int .i64 0) w)
  app_no : ∀ (FL FD : Nat → Prop) (lb db N : Nat) (st : St) (lg : LogD) (A : Option Addr) (l c : Nat) (rs : List RecD) (spare q : Int) (w : World), LogSt LI w FL FD lb db N st lg → rs.length = l → l ≤ 200 → (∀ r ∈ rs, okR r) → GoodR A c rs w → isI64 spare → fitsE N lg rs 0 spare = q → q ≠ 0 →
    Calls Try.prog 10 #[.pointer (some ⟨lb, 0, none⟩), .slice A l c, .int .i64 spare] w (LogDoes LI FL FD lb db N st lg (.int .i64 q) w)
  chk_yes : ∀ (FL FD : Nat → Prop) (lb db N : Nat) (st : St) (lg : LogD) (A : Option Addr) (l c : Nat) (rs : List RecD) (spare : Int) (w : World), LogSt LI w FL FD lb db N st lg → rs.length = l → l ≤ 200 → (∀ r ∈ rs, okR r) → GoodR A c rs w → isI64 spare → st.cache.length + nOf rs + 1 ≤ 999 → fitsE N lg rs 1 spare = 0 →
    Calls Try.prog 15 #[.pointer (some ⟨lb, 0, none⟩), .slice A l c, .int .i64 spare] w (LogDoes LI FL FD lb db N (chkS N lg st rs) (chkL lg rs) (.int .i64 0) w)
  chk_no : ∀ (FL FD : Nat → Prop) (lb db N : Nat) (st : St) (lg : LogD) (A : Option Addr) (l c : Nat) (rs : List RecD) (spare q : Int) (w : World), LogSt LI w FL FD lb db N st lg → rs.length = l → l ≤ 200 → (∀ r ∈ rs, okR r) → GoodR A c rs w → isI64 spare → fitsE N lg rs 1 spare = q → q ≠ 0 →
    Calls Try.prog 15 #[.pointer (some ⟨lb, 0, none⟩), .slice A l c, .int .i64 spare] w (LogDoes LI FL FD lb db N st lg (.int .i64 q) w)
  force : ∀ (FL FD : Nat → Prop) (lb db N : Nat) (st : St) (lg : LogD) (w : World), LogSt LI w FL FD lb db N st lg → st.cache.length ≤ 1000 → Calls Try.prog 11 #[.pointer (some ⟨lb, 0, none⟩)] w (LogDoes LI FL FD lb db N (flushS st) (forL lg) (.tuple #[]) w)
  free : ∀ (FL FD : Nat → Prop) (lb db N : Nat) (st : St) (lg : LogD) (w : World), LogSt LI w FL FD lb db N st lg → Calls Try.prog 17 #[.pointer (some ⟨lb, 0, none⟩)] w fun e w' => e = .returned (.int .i64 ((N : Int) - lg.next + lg.sure)) ∧ Below w.heap.size w w'
  next : ∀ (FL FD : Nat → Prop) (lb db N : Nat) (st : St) (lg : LogD) (w : World), LogSt LI w FL FD lb db N st lg → Calls Try.prog 20 #[.pointer (some ⟨lb, 0, none⟩)] w fun e w' => e = .returned (.int .i64 (lg.next : Int)) ∧ Below w.heap.size w w'
  first : ∀ (FL FD : Nat → Prop) (lb db N : Nat) (st : St) (lg : LogD) (w : World), LogSt LI w FL FD lb db N st lg → Calls Try.prog 22 #[.pointer (some ⟨lb, 0, none⟩)] w fun e w' => e = .returned (.int .i64 (lg.first : Int)) ∧ Below w.heap.size w w'
  sectors : ∀ (A : Option Addr) (l c : Nat) (rs : List RecD) (w : World), rs.length = l → l ≤ 200 → (∀ r ∈ rs, okR r) → GoodR A c rs w → Calls Try.prog 16 #[.slice A l c] w fun e w' => e = .returned (.int .i64 (if rs.all rightB then (nOf rs : Int) else -1)) ∧ Below w.heap.size w w'

theorem LogSt.kept {LI : World → (Nat → Prop) → Nat → Nat → LogD → Prop} (S : WalOK LI) {w w' : World} {FL FD G : Nat → Prop} {lb db N : Nat} {st : St} {lg : LogD} (h : LogSt LI w FL FD lb db N st lg) (hm : Moves G w w') (hl : ∀ k, FL k → ¬ G k) (hd : ∀ k, FD k → ¬ G k) : LogSt LI w' FL FD lb db N st lg :=
  ⟨S.kept h.log hm hl, h.disk.moves hm hd, h.apart, h.ok, h.bytes⟩
theorem LogSt.below {LI : World → (Nat → Prop) → Nat → Nat → LogD → Prop} (S : WalOK LI) {w w' : World} {FL FD : Nat → Prop} {lb db N : Nat} {st : St} {lg : LogD} (h : LogSt LI w FL FD lb db N st lg) (hb : Below w.heap.size w w') : LogSt LI w' FL FD lb db N st lg :=
  h.kept S (moves_of_below (F := fun _ => False) hb) (fun _ _ e => e) (fun _ _ e => e)
/-- A log and its disk, and blocks X that must stay; all older than B stays, too. -/
structure LHas (LI : World → (Nat → Prop) → Nat → Nat → LogD → Prop) (B : Nat) (w0 : World) (X : Nat → Prop) (w : World) (lb db N : Nat) (st : St) (lg : LogD) : Prop where
  ex : ∃ FL FD, LogSt LI w FL FD lb db N st lg ∧ (∀ k, FL k → B ≤ k ∧ ¬ X k) ∧ (∀ k, FD k → B ≤ k ∧ ¬ X k)
  below : Below B w0 w
  size : B ≤ w.heap.size
/-- What stays of X. -/
def Stay (X : Nat → Prop) (w w' : World) : Prop := w.heap.size ≤ w'.heap.size ∧ ∀ k, X k → k < w.heap.size → w'.heap[k]? = w.heap[k]?
theorem LHas.does {LI : World → (Nat → Prop) → Nat → Nat → LogD → Prop} {B : Nat} {w0 : World} {X : Nat → Prop} {w : World} {lb db N : Nat} {st : St} {lg : LogD} (h : LHas LI B w0 X w lb db N st lg) (hX : ∀ k, X k → k < w.heap.size) {st' : St} {lg' : LogD} {v : Value} {f : Nat} {args : Array Value}
    (hc : ∀ FL FD, LogSt LI w FL FD lb db N st lg → Calls Try.prog f args w (LogDoes LI FL FD lb db N st' lg' v w)) :
    Calls Try.prog f args w fun e w' => e = .returned v ∧ LHas LI B w0 X w' lb db N st' lg' ∧ Stay X w w' := by
  obtain ⟨FL, FD, hs, h1, h2⟩ := h.ex
  refine (hc FL FD hs).mono ?_
  rintro e w' ⟨rfl, hm, FL', FD', hs', k1, k2⟩
  have hb : Below B w w' := hm.below h.size (fun k hk => hk.elim (fun a => (h1 k a).1) (fun a => (h2 k a).1))
  refine ⟨rfl, ⟨⟨FL', FD', hs', fun k hk => ?_, fun k hk => ?_⟩, h.below.trans hb, Nat.le_trans h.size hm.size⟩, hm.size, fun k hk hlt => hm.block k hlt ?_⟩
  · rcases k1 k hk with a | a
    · exact h1 k a
    · exact ⟨Nat.le_trans h.size a, fun x => absurd (hX k x) (by omega)⟩
  · rcases k2 k hk with a | a
    · exact h2 k a
    · exact ⟨Nat.le_trans h.size a, fun x => absurd (hX k x) (by omega)⟩
  · rintro (a | a)
    · exact (h1 k a).2 hk
    · exact (h2 k a).2 hk
end Go.Proofs.Ytdmkkfpbgpijjaa
namespace Go.Proofs.Ytdmkkfpbgpijjaa
open Go.RowKit Go.Deep
set_option linter.unusedVariables false

theorem newS_eq (N : Nat) : newS N = ⟨zeroD N, []⟩ := rfl
theorem bytes_new (N : Nat) : BytesD (newS N) := by
  refine ⟨fun z hz => ?_, fun p hp => by cases hp⟩
  have : z = zeroS := (List.mem_replicate.1 hz).2
  rw [this]
  exact zeros_bytes 32
theorem tells_new (N : Nat) : tells (nows (newS N)) = some (⟨1, 1, 1⟩, []) := by
  have e : nows (newS N) = zeroD N := rfl
  rw [e]
  refine tells_none _ fun i hi => counts_zero (secAt_zeroD N i ?_)
  simpa [zeroD] using hi
theorem logOK_new (N : Nat) (h : 1 ≤ N) : LogOK N ⟨1, 1, 1⟩ := ⟨Nat.le_refl _, Nat.le_refl _, Nat.le_refl _, Nat.le_refl _, by dsimp only; omega, by dsimp only; omega⟩
def BeginSays5 (LI : World → (Nat → Prop) → Nat → Nat → LogD → Prop) (N : Nat) (w : World) (e : Ending) (w' : World) : Prop :=
  ∃ db lb FL FD, e = .returned (.tuple #[.pointer (some ⟨db, 0, none⟩), .pointer (some ⟨lb, 0, none⟩)]) ∧ LogSt LI w' FL FD lb db N (newS N) ⟨1, 1, 1⟩ ∧ (∀ k, FL k → w.heap.size ≤ k) ∧ (∀ k, FD k → w.heap.size ≤ k) ∧ Below w.heap.size w w'
set_option maxRecDepth 100000 in
set_option maxHeartbeats 1000000 in
theorem begin5 {LI : World → (Nat → Prop) → Nat → Nat → LogD → Prop} (S : WalOK LI) (N : Nat) (h1 : 1 ≤ N) (h2 : N ≤ 512) (w : World) :
    Calls Try.prog 9 #[.int .i64 N] w (BeginSays5 LI N w) := by
  have F1 := new_ok N w h1 h2
  unfold NewSays at F1
  have F2 := fun FD db W h => S.open_yes FD db N (newS N) _ _ W h (bytes_new N) (tells_new N)
  have HO := Lib.hid (logOK_new N h1)
  have HB := Lib.hid (bytes_new N)
  have HK := Lib.hid S
  clear S
  unfold BeginSays5
  generalize newS N = st at *
  go_enter Try.func9, Try.ntmps9
  go_wp2_with fail
  refine F1.mono ?_
  rintro e w1 ⟨db, rfl, hd, k1⟩
  clear F1
  go_wp2_with fail
  refine (F2 _ _ _ hd).mono ?_
  rintro e w2 ⟨lb, v, FL, rfl, hl, hge, ho, hv, k2⟩
  clear F2
  go_wp2
  go_ret2
  exact ⟨db, lb, FL, _, rfl, ⟨hl, hd.below k2, fun k hk hk2 => absurd (hge k hk) (by omega), HO.out, HB.out⟩, fun k hk => Nat.le_trans k1.size (hge k hk), fun k hk => hk.1, below_more k1 k2 (Nat.le_refl _)⟩
end Go.Proofs.Ytdmkkfpbgpijjaa
namespace Go.Proofs.Ytdmkkfpbgpijjaa
open Go.RowKit Go.Deep
set_option linter.unusedVariables false

theorem goodR_stay {A : Option Addr} {c : Nat} {rs : List RecD} {w w' : World} (h : GoodR A c rs w) (hs : w.heap.size ≤ w'.heap.size) (hb : ∀ b off, A = some ⟨b, off, none⟩ → w'.heap[b]? = w.heap[b]?) : GoodR A c rs w' := by
  refine ⟨fun h0 => ?_, h.2⟩
  obtain ⟨b, off, e, hlt, hc⟩ := h.1 h0
  exact ⟨b, off, e, Nat.lt_of_lt_of_le hlt hs, fun j r hr i v hv => (World.cell?_of_block (a := ⟨b, off + j * 11 + i, none⟩) (hb b off e)).trans (hc j r hr i v hv)⟩
theorem ownsR_stay {B : Nat} {w w' : World} {v : Value} {rs : List RecD} (h : OwnsR B w v rs) (hb : ∀ k, v.ownBlock = some k → w'.heap[k]? = w.heap[k]?) : OwnsR B w' v rs := row_kept h hb
theorem ownsR_ge {B : Nat} {w : World} {v : Value} {rs : List RecD} (h : OwnsR B w v rs) : ∀ k, v.ownBlock = some k → B ≤ k ∧ k < w.heap.size := by
  intro k hk
  rcases h.2 with ⟨rfl, hn⟩ | ⟨g, cap, cur, rfl, hB, hh, _⟩
  · cases hk
  · injection hk with hk
    subst hk
    exact ⟨hB, (Array.getElem?_eq_some_iff.1 hh).1⟩
theorem bytes_nows {st : St} (h : BytesD st) : ∀ z ∈ nows st, isBytes z := by
  unfold nows
  obtain ⟨h1, h2⟩ := h
  generalize st.cache = ws at h2
  generalize st.safe = s at h1
  induction ws generalizing s with
  | nil => exact h1
  | cons p ws ih =>
    refine ih (fun q hq => h2 q (List.mem_cons_of_mem _ hq)) _ ?_
    intro z hz
    rcases List.mem_or_eq_of_mem_set hz with h | h
    · exact h1 z h
    · rw [h]; exact h2 p List.mem_cons_self
theorem bytes_flush {st : St} (h : BytesD st) : BytesD (flushS st) := ⟨bytes_nows h, fun p hp => by cases hp⟩
theorem bytes_crash {st : St} (h : BytesD st) (keep tear : Int) : BytesD (crashS st keep tear) := by
  refine ⟨?_, fun p hp => by cases hp⟩
  show ∀ z ∈ crashL st.safe st.cache keep tear, isBytes z
  unfold crashL
  split
  · exact bytes_nows h
  · rename_i p hp
    have h1 : ∀ z ∈ carry st.safe (st.cache.take (keptOf keep st.cache.length)), isBytes z := bytes_nows (st := ⟨st.safe, st.cache.take (keptOf keep st.cache.length)⟩) ⟨h.1, fun q hq => h.2 q (List.mem_of_mem_take hq)⟩
    intro z hz
    rcases List.mem_or_eq_of_mem_set hz with h2 | h2
    · exact h1 z h2
    · rw [h2]
      refine ((h.2 p (List.mem_of_getElem? hp)).take _).append (isBytes.drop ?_ _)
      intro y hy
      unfold secAt at hy
      cases e : (carry st.safe (st.cache.take (keptOf keep st.cache.length)))[p.1]? with
      | none => rw [e] at hy; cases hy
      | some u => rw [e] at hy; exact h1 u (List.mem_of_getElem? e) y hy
theorem Stay.refl (X : Nat → Prop) (w : World) : Stay X w w := ⟨Nat.le_refl _, fun _ _ _ => rfl⟩
theorem Stay.trans {X : Nat → Prop} {a b c : World} (h : Stay X a b) (k : Stay X b c) : Stay X a c := ⟨Nat.le_trans h.1 k.1, fun i hi hlt => (k.2 i hi (Nat.lt_of_lt_of_le hlt h.1)).trans (h.2 i hi hlt)⟩
theorem stay_below (X : Nat → Prop) {w w' : World} (h : Below w.heap.size w w') : Stay X w w' := ⟨h.size, fun k _ hlt => h.block k hlt⟩
theorem Stay.goodR {X : Nat → Prop} {w w' : World} (h : Stay X w w') {A : Option Addr} {c : Nat} {rs : List RecD} (g : GoodR A c rs w) (hA : ∀ b off, A = some ⟨b, off, none⟩ → X b ∧ b < w.heap.size) : GoodR A c rs w' := goodR_stay g h.1 fun b off e => h.2 b (hA b off e).1 (hA b off e).2
theorem Stay.ownsR {X : Nat → Prop} {w w' : World} (h : Stay X w w') {B : Nat} {v : Value} {rs : List RecD} (g : OwnsR B w v rs) (hA : ∀ k, v.ownBlock = some k → X k) : OwnsR B w' v rs := ownsR_stay g fun k e => h.2 k (hA k e) (ownsR_ge g k e).2
theorem LHas.keep {LI : World → (Nat → Prop) → Nat → Nat → LogD → Prop} (S : WalOK LI) {B : Nat} {w0 : World} {X : Nat → Prop} {w w' : World} {lb db N : Nat} {st : St} {lg : LogD} (h : LHas LI B w0 X w lb db N st lg) (hb : Below w.heap.size w w') : LHas LI B w0 X w' lb db N st lg := by
  obtain ⟨FL, FD, hs, h1, h2⟩ := h.ex
  exact ⟨⟨FL, FD, hs.below S hb, h1, h2⟩, h.below.trans (hb.mono h.size), Nat.le_trans h.size hb.size⟩
theorem LHas.addX {LI : World → (Nat → Prop) → Nat → Nat → LogD → Prop} (S : WalOK LI) {B : Nat} {w0 : World} {X X' : Nat → Prop} {w : World} {lb db N : Nat} {st : St} {lg : LogD} (h : LHas LI B w0 X w lb db N st lg) (hX : ∀ k, X' k → X k ∨ w.heap.size ≤ k) : LHas LI B w0 X' w lb db N st lg := by
  obtain ⟨FL, FD, hs, h1, h2⟩ := h.ex
  refine ⟨⟨FL, FD, hs, fun k hk => ⟨(h1 k hk).1, fun x => ?_⟩, fun k hk => ⟨(h2 k hk).1, fun x => ?_⟩⟩, h.below, h.size⟩
  · rcases hX k x with a | a
    · exact (h1 k hk).2 a
    · have := S.lt hs.log k hk; omega
  · rcases hX k x with a | a
    · exact (h2 k hk).2 a
    · have := hs.disk.lt k hk; omega
/-- A disk alone, and blocks X that must stay. -/
structure DHas (B : Nat) (w0 : World) (X : Nat → Prop) (w : World) (db N : Nat) (st : St) : Prop where
  ex : ∃ FD, DiskAt w FD db N st ∧ (∀ k, FD k → B ≤ k ∧ ¬ X k)
  bytes : BytesD st
  below : Below B w0 w
  size : B ≤ w.heap.size
theorem LHas.disk {LI : World → (Nat → Prop) → Nat → Nat → LogD → Prop} {B : Nat} {w0 : World} {X : Nat → Prop} {w : World} {lb db N : Nat} {st : St} {lg : LogD} (h : LHas LI B w0 X w lb db N st lg) : DHas B w0 X w db N st := by
  obtain ⟨FL, FD, hs, h1, h2⟩ := h.ex
  exact ⟨⟨FD, hs.disk, h2⟩, hs.bytes, h.below, h.size⟩
theorem DHas.crash {B : Nat} {w0 : World} {X : Nat → Prop} {w : World} {db N : Nat} {st : St} (h : DHas B w0 X w db N st) (hX : ∀ k, X k → k < w.heap.size) (keep tear : Int) (hc : st.cache.length ≤ 1000) :
    Calls Try.prog 12 #[.pointer (some ⟨db, 0, none⟩), .int .i64 keep, .int .i64 tear] w fun e w' => e = .returned (.tuple #[]) ∧ DHas B w0 X w' db N (crashS st keep tear) ∧ Stay X w w' := by
  obtain ⟨FD, hd, h2⟩ := h.ex
  refine (crash_any FD db N st keep tear w hd hc).mono ?_
  rintro e w' ⟨rfl, hd', hm⟩
  have hb : Below B w w' := hm.below h.size (fun k hk => (h2 k hk).1)
  refine ⟨rfl, ⟨⟨_, hd', fun k hk => ?_⟩, bytes_crash h.bytes keep tear, h.below.trans hb, Nat.le_trans h.size hm.size⟩, hm.size, fun k hk hlt => hm.block k hlt (fun a => (h2 k a).2 hk)⟩
  rcases hk with a | ⟨a, _⟩
  · exact h2 k a
  · exact ⟨Nat.le_trans h.size a, fun x => absurd (hX k x) (by omega)⟩
theorem DHas.opens {LI : World → (Nat → Prop) → Nat → Nat → LogD → Prop} (S : WalOK LI) {B : Nat} {w0 : World} {X : Nat → Prop} {w : World} {db N : Nat} {st : St} (h : DHas B w0 X w db N st) (hX : ∀ k, X k → k < w.heap.size) {lg : LogD} {rs : List RecD} (ht : tells (nows st) = some (lg, rs)) (hok : LogOK N lg) :
    Calls Try.prog 13 #[.pointer (some ⟨db, 0, none⟩)] w fun e w' => ∃ lb v, e = .returned (.tuple #[.pointer (some ⟨lb, 0, none⟩), v, .int .i64 0]) ∧ OwnsR w.heap.size w' v rs ∧ LHas LI B w0 (fun k => X k ∨ v.ownBlock = some k) w' lb db N st lg ∧ Below w.heap.size w w' := by
  obtain ⟨FD, hd, h2⟩ := h.ex
  refine (S.open_yes FD db N st lg rs w hd h.bytes ht).mono ?_
  rintro e w' ⟨lb, v, FL, rfl, hl, hge, ho, hv, k⟩
  refine ⟨lb, v, rfl, ho, ⟨⟨FL, FD, ⟨hl, hd.below k, fun i hi hi2 => absurd (hge i hi) (by have := hd.lt i hi2; omega), hok, h.bytes⟩, fun i hi => ⟨Nat.le_trans h.size (hge i hi), ?_⟩, fun i hi => ⟨(h2 i hi).1, ?_⟩⟩, h.below.trans (k.mono h.size), Nat.le_trans h.size k.size⟩, k⟩
  · rintro (a | a)
    · have := hX i a; have := hge i hi; omega
    · exact hv i a hi
  · rintro (a | a)
    · exact (h2 i hi).2 a
    · have := (ownsR_ge ho i a).1; have := hd.lt i hi; omega
end Go.Proofs.Ytdmkkfpbgpijjaa
namespace Go.Proofs.Ytdmkkfpbgpijjaa
open Go.RowKit Go.Deep
set_option linter.unusedVariables false

def AllSays (zs : List Int) (w : World) (e : Ending) (w' : World) : Prop := ∃ k v, Stops zs k ∧ e = .returned (.tuple #[v, .int .i64 ((posN zs k : Nat) : Int)]) ∧ OwnsR w.heap.size w' v (recsN zs k) ∧ Below w.heap.size w w'
set_option maxRecDepth 100000 in
set_option maxHeartbeats 2000000 in
theorem all_any (A : Option Addr) (l c : Nat) (zs : List Int) (hl : zs.length = l) (hl2 : l ≤ 8200) (hz : isBytes zs) (w : World) (g : Good A c zs w) :
    Calls Try.prog 44 #[.slice A l c] w (AllSays zs w) := by
  have hlc : l ≤ c := by have := g.2.1; omega
  have HL := Lib.hid hl
  go_enter Try.func44, Try.ntmps44
  go_wp2
  go_loopw [4, 5] (fun v i wr => ∃ k : Nat, i = .int .i64 ((posN zs k : Nat) : Int) ∧ Goes zs k ∧ OwnsR w.heap.size wr v (recsN zs k) ∧ Below w.heap.size w wr) (fun _ i _ => l - (intOf i).toNat)
  case atStart => exact ⟨0, rfl, (fun i hi => absurd hi (by omega)), ownsR_nil _ _, Below.refl _ _⟩
  case round =>
    obtain ⟨k, rfl, hgo, hown, hbel⟩ := hrel
    have hpl : posN zs k ≤ l := by rw [← hl]; exact posN_le zs k
    have hp3 := posN_ge hgo
    have hnx := Lib.hid (posN_succ zs k)
    have hrx := Lib.hid (recsN_succ zs k)
    have hgx := Lib.hid (fun h => hgo.succ h)
    have hst := Lib.hid (fun h => (show Stops zs k from ⟨hgo, h⟩))
    have hrl := recsN_length zs k
    have hdl : decN (zs.drop (posN zs k)) ≤ l - posN zs k := by have := decN_le (zs.drop (posN zs k)); rwa [List.length_drop, hl] at this
    have hle : (zs.drop (posN zs k)).length = l - posN zs k := by rw [List.length_drop, hl]
    have F1 : ∀ A' c', Good A' c' (zs.drop (posN zs k)) wr → Calls Try.prog 52 #[.slice A' (l - posN zs k) c'] wr fun e w' => e = .returned (.tuple #[.agg #[.int .i64 (decR (zs.drop (posN zs k))).kind, .int .i64 (decR (zs.drop (posN zs k))).tx, .int .u16 (decR (zs.drop (posN zs k))).mask, .int .u8 (decR (zs.drop (posN zs k))).k0, .int .u8 (decR (zs.drop (posN zs k))).k1, .int .u8 (decR (zs.drop (posN zs k))).k2, .int .u8 (decR (zs.drop (posN zs k))).k3, .bool (decR (zs.drop (posN zs k))).oT, .int .i64 (decR (zs.drop (posN zs k))).oN, .bool (decR (zs.drop (posN zs k))).nT, .int .i64 (decR (zs.drop (posN zs k))).nN], .int .i64 (decN (zs.drop (posN zs k)) : Nat)]) ∧ Below wr.heap.size wr w' := fun A' c' h => dec_any A' (l - posN zs k) c' (zs.drop (posN zs k)) hle (hz.drop _) wr h
    have gd : ∀ b off, A = some ⟨b, off, none⟩ → Good (some ⟨b, off + posN zs k, none⟩) (c - posN zs k) (zs.drop (posN zs k)) wr := fun b off e => by
      subst e
      exact (g.below hbel).drop (posN zs k) (by omega)
    have gn : posN zs k = l → zs.drop (posN zs k) = [] := fun e => List.drop_of_length_le (by omega)
    generalize decR (zs.drop (posN zs k)) = r at *
    generalize decN (zs.drop (posN zs k)) = n at *
    generalize zs.drop (posN zs k) = ds at *
    generalize hpp : posN zs k = p at *
    have HP := Lib.hid hpp
    clear hpp
    clear hgo hle
    have HRL := Lib.hid hrl
    clear hrl
    cases A with
    | none =>
      obtain ⟨rfl, rfl⟩ := (g.below hbel).none_nil
      have l0 : l = 0 := by have := HL.out; simpa using this.symm
      subst l0
      obtain rfl : p = 0 := by omega
      have e0 := gn rfl
      subst e0
      have n0 : n = 0 := by omega
      subst n0
      have HS := Lib.hid (hst.out rfl)
      clear hst
      have F1' := F1 none 0 (Good.nil wr)
      clear F1 gd gn
      go_wp2_with fail
      (with_reducible refine F1'.mono ?_)
      rintro e w1 ⟨rfl, k1⟩
      have hown1 := hown.below k1
      go_wp2
      go_ret2
      refine ⟨k, _, HS.out, ?_, hown1.below ((Below.refl _ _).alloc (Nat.le_refl _) _), (below_more hbel k1 (Nat.le_refl _)).alloc (below_more hbel k1 (Nat.le_refl _)).size _⟩
      rw [HP.out]; rfl
    | some ad =>
      by_cases hl0 : l = 0
      · subst hl0
        obtain rfl : p = 0 := by omega
        have e0 := gn rfl
        subst e0
        have n0 : n = 0 := by omega
        subst n0
        have HS := Lib.hid (hst.out rfl)
        clear hst gd gn
        have i0 : (0 : Int) ≤ (c : Int) := by omega
        go_wp2_with fail
        refine (F1 _ _ ⟨Ints.nil, by simp, fun e => by cases e⟩).mono ?_
        rintro e w1 ⟨rfl, k1⟩
        have hown1 := hown.below k1
        go_wp2
        go_ret2
        refine ⟨k, _, HS.out, ?_, hown1.below ((Below.refl _ _).alloc (Nat.le_refl _) _), (below_more hbel k1 (Nat.le_refl _)).alloc (below_more hbel k1 (Nat.le_refl _)).size _⟩
        rw [HP.out]; rfl
      obtain ⟨b, off, hab⟩ := g.some (by omega)
      injection hab with hab
      subst hab
      by_cases hce : c = p
      · have hpe : p = l := by omega
        have e0 := gn hpe
        subst e0
        have n0 : n = 0 := by omega
        subst n0
        have HS := Lib.hid (hst.out rfl)
        clear hst
        subst hce
        subst hpe
        rw [Nat.sub_self] at F1
        have F1' := F1 (some ⟨b, off, none⟩) 0 ⟨Ints.nil, by simp, fun e => by cases e⟩
        clear F1 gd gn
        have i0 : (0 : Int) ≤ (c : Int) := by omega
        go_wp2_with fail
        (with_reducible refine F1'.mono ?_)
        rintro e w1 ⟨rfl, k1⟩
        have hown1 := hown.below k1
        go_wp2
        go_ret2
        refine ⟨k, _, HS.out, ?_, hown1.below ((Below.refl _ _).alloc (Nat.le_refl _) _), (below_more hbel k1 (Nat.le_refl _)).alloc (below_more hbel k1 (Nat.le_refl _)).size _⟩
        rw [HP.out]; rfl
      · skip
        have F1' := F1 (some ⟨b, off + p, none⟩) (c - p) (gd b off rfl)
        have i0 : (0 : Int) ≤ (p : Int) := by omega
        have i1 : (p : Int) ≤ (l : Int) := by omega
        have i3 : p ≤ c := by omega
        clear F1 gd gn
        by_cases hn : n = 0
        · subst hn
          have HS := Lib.hid (hst.out rfl)
          clear hst
          go_wp2_with fail
          (with_reducible refine F1'.mono ?_)
          rintro e w1 ⟨rfl, k1⟩
          have hown1 := hown.below k1
          go_wp2
          go_ret2
          refine ⟨k, _, HS.out, ?_, hown1.below ((Below.refl _ _).alloc (Nat.le_refl _) _), (below_more hbel k1 (Nat.le_refl _)).alloc (below_more hbel k1 (Nat.le_refl _)).size _⟩
          rw [HP.out]; rfl
        · have hnb : ((n : Int) == 0) = false := by simp; omega
          go_wp2_with fail
          (with_reducible refine F1'.mono ?_)
          rintro e w1 ⟨rfl, k1⟩
          have hb1 := below_more hbel k1 (Nat.le_refl _)
          have hown1 := (hown.below k1).below ((Below.refl _ _).alloc (Nat.le_refl _) (.cells #[.int .i64 r.kind, .int .i64 r.tx, .int .u16 r.mask, .int .u8 r.k0, .int .u8 r.k1, .int .u8 r.k2, .int .u8 r.k3, .bool r.oT, .int .i64 r.oN, .bool r.nT, .int .i64 r.nN] 48))
          have hb2 : Below w.heap.size w (w1.alloc (.cells #[.int .i64 r.kind, .int .i64 r.tx, .int .u16 r.mask, .int .u8 r.k0, .int .u8 r.k1, .int .u8 r.k2, .int .u8 r.k3, .bool r.oT, .int .i64 r.oN, .bool r.nT, .int .i64 r.nN] 48)) := hb1.alloc hb1.size _
          have hown2 := hown1.below ((Below.refl _ _).alloc (Nat.le_refl _) (.cells #[.int .i64 r.kind, .int .i64 r.tx, .int .u16 r.mask, .int .u8 r.k0, .int .u8 r.k1, .int .u8 r.k2, .int .u8 r.k3, .bool r.oT, .int .i64 r.oN, .bool r.nT, .int .i64 r.nN] 48))
          have hb3 : Below w.heap.size w ((w1.alloc (.cells #[.int .i64 r.kind, .int .i64 r.tx, .int .u16 r.mask, .int .u8 r.k0, .int .u8 r.k1, .int .u8 r.k2, .int .u8 r.k3, .bool r.oT, .int .i64 r.oN, .bool r.nT, .int .i64 r.nN] 48)).alloc (.cells #[.int .i64 r.kind, .int .i64 r.tx, .int .u16 r.mask, .int .u8 r.k0, .int .u8 r.k1, .int .u8 r.k2, .int .u8 r.k3, .bool r.oT, .int .i64 r.oN, .bool r.nT, .int .i64 r.nN] 48)) := hb2.alloc hb2.size _
          have hro : RecO ((w1.alloc (.cells #[.int .i64 r.kind, .int .i64 r.tx, .int .u16 r.mask, .int .u8 r.k0, .int .u8 r.k1, .int .u8 r.k2, .int .u8 r.k3, .bool r.oT, .int .i64 r.oN, .bool r.nT, .int .i64 r.nN] 48)).alloc (.cells #[.int .i64 r.kind, .int .i64 r.tx, .int .u16 r.mask, .int .u8 r.k0, .int .u8 r.k1, .int .u8 r.k2, .int .u8 r.k3, .bool r.oT, .int .i64 r.oN, .bool r.nT, .int .i64 r.nN] 48)) (w1.heap.size + 1) 0 r := by
            have := recO_new (w1.alloc (.cells #[.int .i64 r.kind, .int .i64 r.tx, .int .u16 r.mask, .int .u8 r.k0, .int .u8 r.k1, .int .u8 r.k2, .int .u8 r.k3, .bool r.oT, .int .i64 r.oN, .bool r.nT, .int .i64 r.nN] 48)) r
            rw [show (w1.alloc (.cells #[.int .i64 r.kind, .int .i64 r.tx, .int .u16 r.mask, .int .u8 r.k0, .int .u8 r.k1, .int .u8 r.k2, .int .u8 r.k3, .bool r.oT, .int .i64 r.oN, .bool r.nT, .int .i64 r.nN] 48)).heap.size = w1.heap.size + 1 by simp] at this
            exact this
          have hsz3 := hb3.size
          clear hown1 F1'
          go_wp2_with (at_builtin; refine wpList_appendR rfl _ _ rfl w.heap.size _ _ rfl hown2 r (w1.heap.size + 1) 1 rfl hro (by rw [HRL.out]; omega) hsz3 w hb3 ?_; intro v' w4 hown4 hb4)
          go_roundw
          case rel => exact ⟨k + 1, by rw [hnx.out]; go_num, hgx.out hn, by rw [hrx.out]; exact hown4, hb4⟩
          case measure => simp [intOf]; omega
end Go.Proofs.Ytdmkkfpbgpijjaa
namespace Go.Proofs.Ytdmkkfpbgpijjaa
open Go.RowKit Go.Deep
set_option linter.unusedVariables false

def JoinSays (rs : List RecD) (w : World) (e : Ending) (w' : World) : Prop :=
  (rs.all rightB = true ∧ ∃ v, e = .returned (.tuple #[v, .bool true]) ∧ Owns w.heap.size w' v (joinL rs) ∧ Below w.heap.size w w') ∨
  (rs.all rightB = false ∧ e = .returned (.tuple #[.slice none 0 0, .bool false]) ∧ Below w.heap.size w w')
theorem owns_nil (B : Nat) (w : World) : Owns B w (.slice none 0 0) [] := ⟨rfl, .inl ⟨rfl, rfl⟩⟩
set_option maxRecDepth 100000 in
set_option maxHeartbeats 2000000 in
theorem join_any (A : Option Addr) (l c : Nat) (rs : List RecD) (hl : rs.length = l) (hl2 : l ≤ 200) (ok : ∀ r ∈ rs, okR r) (w : World) (g : GoodR A c rs w) :
    Calls Try.prog 34 #[.slice A l c] w (JoinSays rs w) := by
  have HL := Lib.hid hl
  go_enter Try.func34, Try.ntmps34
  go_wp2
  go_loopw [4, 11] (fun v i wr => ∃ k : Nat, k ≤ l ∧ i = .int .i64 k ∧ (∀ r ∈ rs.take k, rightB r = true) ∧ Owns w.heap.size wr v (joinL (rs.take k)) ∧ Below w.heap.size w wr) (fun v i _ => l - (intOf i).toNat)
  case atStart => exact ⟨0, Nat.zero_le _, rfl, (fun r hr => by simp at hr), owns_nil _ _, Below.refl _ _⟩
  case round =>
    obtain ⟨k, hk, rfl, hall, hown, hbel⟩ := hrel
    by_cases hlt : k < l
    · have hkl : k < rs.length := by omega
      have hxs := List.take_succ_eq_append_getElem hkl
      have hmem : rs[k] ∈ rs := List.getElem_mem hkl
      have okr := ok _ hmem
      obtain ⟨b, off, rfl, hbl, hro⟩ := (g.below hbel).cells k hkl
      have hjl := joinL_le (rs.take k)
      rw [List.length_take] at hjl
      have hjs := Lib.hid (joinL_snoc (rs.take k) rs[k])
      have hal := Lib.hid (fun h => (show ∀ r ∈ rs.take (k + 1), rightB r = true from fun r hr => by
        rw [hxs] at hr
        rcases List.mem_append.1 hr with hr | hr
        · exact hall r hr
        · simp at hr; subst hr; exact h))
      have hno := Lib.hid (fun (h : rightB rs[k] = false) => (show rs.all rightB = false by
        rw [Bool.eq_false_iff]
        intro e
        rw [List.all_eq_true] at e
        rw [e _ hmem] at h
        cases h))
      have HX := Lib.hid hxs
      clear hxs hmem hall
      generalize hr0 : rs[k] = r at *
      clear hr0 hkl
      have q0 : wr.cell? ⟨b, off + k * 11, none⟩ = some (.int .i64 r.kind) := hro 0 _ rfl
      have q1 : wr.cell? ⟨b, off + k * 11 + 1, none⟩ = some (.int .i64 r.tx) := hro 1 _ rfl
      have q2 : wr.cell? ⟨b, off + k * 11 + 2, none⟩ = some (.int .u16 r.mask) := hro 2 _ rfl
      have q3 : wr.cell? ⟨b, off + k * 11 + 3, none⟩ = some (.int .u8 r.k0) := hro 3 _ rfl
      have q4 : wr.cell? ⟨b, off + k * 11 + 4, none⟩ = some (.int .u8 r.k1) := hro 4 _ rfl
      have q5 : wr.cell? ⟨b, off + k * 11 + 5, none⟩ = some (.int .u8 r.k2) := hro 5 _ rfl
      have q6 : wr.cell? ⟨b, off + k * 11 + 6, none⟩ = some (.int .u8 r.k3) := hro 6 _ rfl
      have q7 : wr.cell? ⟨b, off + k * 11 + 7, none⟩ = some (.bool r.oT) := hro 7 _ rfl
      have q8 : wr.cell? ⟨b, off + k * 11 + 8, none⟩ = some (.int .i64 r.oN) := hro 8 _ rfl
      have q9 : wr.cell? ⟨b, off + k * 11 + 9, none⟩ = some (.bool r.nT) := hro 9 _ rfl
      have q10 : wr.cell? ⟨b, off + k * 11 + 10, none⟩ = some (.int .i64 r.nN) := hro 10 _ rfl
      clear hro
      cases hr : rightB r with
      | false =>
        have F1 : ∀ W, Calls Try.prog 47 #[.agg #[.int .i64 r.kind, .int .i64 r.tx, .int .u16 r.mask, .int .u8 r.k0, .int .u8 r.k1, .int .u8 r.k2, .int .u8 r.k3, .bool r.oT, .int .i64 r.oN, .bool r.nT, .int .i64 r.nN]] W fun e w' => e = .returned (.tuple #[.slice none 0 0, .bool false]) ∧ Below W.heap.size W w' := fun W => enc_no r hr W
        have HN := Lib.hid (hno.out hr)
        clear hno hal
        go_wp2_with fail
        (with_reducible refine (F1 _).mono ?_)
        rintro e w1 ⟨rfl, k1⟩
        go_wp2
        go_ret2
        exact .inr ⟨HN.out, rfl, below_more (hbel.alloc hbel.size _) k1 (Nat.le_refl _)⟩
      | true =>
        have F1 : ∀ W, Calls Try.prog 47 #[.agg #[.int .i64 r.kind, .int .i64 r.tx, .int .u16 r.mask, .int .u8 r.k0, .int .u8 r.k1, .int .u8 r.k2, .int .u8 r.k3, .bool r.oT, .int .i64 r.oN, .bool r.nT, .int .i64 r.nN]] W fun e w' => ∃ A2 c2, e = .returned (.tuple #[.slice A2 (encL r).length c2, .bool true]) ∧ Good A2 c2 (encL r) w' ∧ Below W.heap.size W w' := fun W => by
          refine (enc_yes r hr okr W).mono ?_
          rintro e w' ⟨v, rfl, o, k⟩
          obtain ⟨A2, c2, rfl, g2⟩ := o.good
          exact ⟨A2, c2, rfl, g2, k⟩
        have hel := (encL_bd r).2
        have HA := Lib.hid (hal.out hr)
        clear hno hal
        obtain ⟨n, hn⟩ : ∃ n, (encL r).length = n := ⟨_, rfl⟩
        rw [hn] at F1 hel
        have HN := Lib.hid hn
        clear hn
        generalize encL r = es at *
        generalize hjj : joinL (rs.take k) = js at *
        have HJ := Lib.hid hjj
        clear hjj
        go_wp2_with fail
        (with_reducible refine (F1 _).mono ?_)
        rintro e w1 ⟨A1, c1, rfl, g1, k1⟩
        have hown1 := (hown.below ((Below.refl _ _).alloc (Nat.le_refl _) (.cells #[.int .i64 r.kind, .int .i64 r.tx, .int .u16 r.mask, .int .u8 r.k0, .int .u8 r.k1, .int .u8 r.k2, .int .u8 r.k3, .bool r.oT, .int .i64 r.oN, .bool r.nT, .int .i64 r.nN] 48))).below k1
        have hb1 : Below w.heap.size w w1 := below_more (hbel.alloc hbel.size _) k1 (Nat.le_refl _)
        clear F1
        go_wp2_with (at_builtin; refine wpList_appendB rfl _ _ rfl w.heap.size _ js rfl hown1 A1 es n c1 rfl HN.out g1 (by rw [HN.out]; omega) hb1.size w hb1 ?_; intro v' w2 hown2 hb2)
        go_roundw
        case rel => exact ⟨k + 1, by omega, by go_num, HA.out, by rw [HX.out, hjs.out]; exact hown2, hb2⟩
        case measure => simp [intOf]; omega
    · obtain rfl : k = l := by omega
      have e1 : rs.take k = rs := by rw [← HL.out, List.take_length]
      rw [e1] at hall hown
      have HA := Lib.hid (show rs.all rightB = true by rw [List.all_eq_true]; exact hall)
      clear hall e1
      go_wp2
      go_ret2
      exact .inl ⟨HA.out, _, rfl, hown, hbel⟩
end Go.Proofs.Ytdmkkfpbgpijjaa
namespace Go.Proofs.Ytdmkkfpbgpijjaa
open Go.RowKit Go.Deep
set_option linter.unusedVariables false

theorem run_neqR (r s : RecD) (w : World) : (binOp .neq 48 (recV r) (recV s)).run Try.prog w = .ok (.bool (!eqR r s)) w := by
  have h := run_eqR r s w
  rw [recV_eq, recV_eq, run_eql_struct] at h
  rw [recV_eq, recV_eq, run_neq_struct]
  cases hx : (Op.equalIn 10000 48 (.agg #[.int .i64 r.kind, .int .i64 r.tx, .int .u16 r.mask, .int .u8 r.k0, .int .u8 r.k1, .int .u8 r.k2, .int .u8 r.k3, .bool r.oT, .int .i64 r.oN, .bool r.nT, .int .i64 r.nN]) (.agg #[.int .i64 s.kind, .int .i64 s.tx, .int .u16 s.mask, .int .u8 s.k0, .int .u8 s.k1, .int .u8 s.k2, .int .u8 s.k3, .bool s.oT, .int .i64 s.oN, .bool s.nT, .int .i64 s.nN])).run Try.prog w with
  | ok b w' =>
    rw [hx] at h
    simp at h
    obtain ⟨rfl, rfl⟩ := h
    simp
  | halt x w' =>
    rw [hx] at h
    simp [Result.andThen] at h
set_option maxRecDepth 100000 in
set_option maxHeartbeats 2000000 in
theorem sameR (A A' : Option Addr) (xs : List RecD) (l c c' : Nat) (hl : xs.length = l) (hl2 : l ≤ 2000) (w : World) (g : GoodR A c xs w) (g' : GoodR A' c' xs w) :
    Calls Try.prog 14 #[.slice A l c, .slice A' l c'] w fun e w' => e = .returned (.bool true) ∧ Below w.heap.size w w' := by
  have hne : ((l : Int) != (l : Int)) = false := by simp
  have HL := Lib.hid hl
  clear hl
  go_enter Try.func14, Try.ntmps14
  go_wp2
  go_loopw [5] (fun i wr => ∃ k : Nat, k ≤ l ∧ i = .int .i64 k ∧ Dr w wr) (fun i _ => l - (intOf i).toNat)
  case atStart => exact ⟨0, Nat.zero_le _, rfl, Dr.refl w⟩
  case round =>
    obtain ⟨k, hk, rfl, n, rfl⟩ := hrel
    by_cases hlt : k < l
    · have hkl : k < xs.length := by have := HL.out; omega
      obtain ⟨b, off, rfl, hb, hro⟩ := g.cells k hkl
      obtain ⟨b', off', rfl, hb', hro'⟩ := g'.cells k hkl
      have hN : ∀ (r : RecD) (W : World), (binOp .neq 48 (.agg #[.int .i64 r.kind, .int .i64 r.tx, .int .u16 r.mask, .int .u8 r.k0, .int .u8 r.k1, .int .u8 r.k2, .int .u8 r.k3, .bool r.oT, .int .i64 r.oN, .bool r.nT, .int .i64 r.nN]) (.agg #[.int .i64 r.kind, .int .i64 r.tx, .int .u16 r.mask, .int .u8 r.k0, .int .u8 r.k1, .int .u8 r.k2, .int .u8 r.k3, .bool r.oT, .int .i64 r.oN, .bool r.nT, .int .i64 r.nN])).run Try.prog W = .ok (.bool false) W := fun r W => by
        have := run_neqR r r W
        rw [(eqR_iff r r).2 rfl] at this
        exact this
      have hN' := hN xs[k]
      clear hN
      generalize xs[k] = r at *
      have p0 : w.cell? ⟨b, off + k * 11, none⟩ = some (.int .i64 r.kind) := hro 0 _ rfl
      have p1 : w.cell? ⟨b, off + k * 11 + 1, none⟩ = some (.int .i64 r.tx) := hro 1 _ rfl
      have p2 : w.cell? ⟨b, off + k * 11 + 2, none⟩ = some (.int .u16 r.mask) := hro 2 _ rfl
      have p3 : w.cell? ⟨b, off + k * 11 + 3, none⟩ = some (.int .u8 r.k0) := hro 3 _ rfl
      have p4 : w.cell? ⟨b, off + k * 11 + 4, none⟩ = some (.int .u8 r.k1) := hro 4 _ rfl
      have p5 : w.cell? ⟨b, off + k * 11 + 5, none⟩ = some (.int .u8 r.k2) := hro 5 _ rfl
      have p6 : w.cell? ⟨b, off + k * 11 + 6, none⟩ = some (.int .u8 r.k3) := hro 6 _ rfl
      have p7 : w.cell? ⟨b, off + k * 11 + 7, none⟩ = some (.bool r.oT) := hro 7 _ rfl
      have p8 : w.cell? ⟨b, off + k * 11 + 8, none⟩ = some (.int .i64 r.oN) := hro 8 _ rfl
      have p9 : w.cell? ⟨b, off + k * 11 + 9, none⟩ = some (.bool r.nT) := hro 9 _ rfl
      have p10 : w.cell? ⟨b, off + k * 11 + 10, none⟩ = some (.int .i64 r.nN) := hro 10 _ rfl
      have q0 : w.cell? ⟨b', off' + k * 11, none⟩ = some (.int .i64 r.kind) := hro' 0 _ rfl
      have q1 : w.cell? ⟨b', off' + k * 11 + 1, none⟩ = some (.int .i64 r.tx) := hro' 1 _ rfl
      have q2 : w.cell? ⟨b', off' + k * 11 + 2, none⟩ = some (.int .u16 r.mask) := hro' 2 _ rfl
      have q3 : w.cell? ⟨b', off' + k * 11 + 3, none⟩ = some (.int .u8 r.k0) := hro' 3 _ rfl
      have q4 : w.cell? ⟨b', off' + k * 11 + 4, none⟩ = some (.int .u8 r.k1) := hro' 4 _ rfl
      have q5 : w.cell? ⟨b', off' + k * 11 + 5, none⟩ = some (.int .u8 r.k2) := hro' 5 _ rfl
      have q6 : w.cell? ⟨b', off' + k * 11 + 6, none⟩ = some (.int .u8 r.k3) := hro' 6 _ rfl
      have q7 : w.cell? ⟨b', off' + k * 11 + 7, none⟩ = some (.bool r.oT) := hro' 7 _ rfl
      have q8 : w.cell? ⟨b', off' + k * 11 + 8, none⟩ = some (.int .i64 r.oN) := hro' 8 _ rfl
      have q9 : w.cell? ⟨b', off' + k * 11 + 9, none⟩ = some (.bool r.nT) := hro' 9 _ rfl
      have q10 : w.cell? ⟨b', off' + k * 11 + 10, none⟩ = some (.int .i64 r.nN) := hro' 10 _ rfl
      clear hro hro' hkl
      go_wp2
      go_quiet (fail)
      go_wp2
      go_roundw
      case rel => exact ⟨k + 1, by omega, by go_num, Dr.of _⟩
      case measure => simp [intOf]; omega
    · obtain rfl : k = l := by omega
      go_wp2
      go_ret
      exact ⟨rfl, (Dr.of _).below _ (Nat.le_refl _)⟩

/-! ### several rows -/
theorem row_block {w : World} {base : Nat} {e : TypeId} {size : Nat} {v : Value} {n : Nat} {xs : List Value} (h : w.ownsRow base e size v n xs) {k : Nat} (hk : v.ownBlock = some k) : ∃ C fr, w.heap[k]? = some (.cells C e fr) := by
  rcases h.2 with ⟨rfl, _⟩ | ⟨g, cap, cur, rfl, _, hg, _⟩
  · cases hk
  · have e : g = k := by simpa [Value.ownBlock] using hk
    subst e
    exact ⟨cur, _, hg⟩
theorem rows_ne {w : World} {b1 b2 : Nat} {e1 e2 : TypeId} {s1 s2 : Nat} {v1 v2 : Value} {n1 n2 : Nat} {x1 x2 : List Value} (h : w.ownsRow b1 e1 s1 v1 n1 x1) (h' : w.ownsRow b2 e2 s2 v2 n2 x2) (hne : e1 ≠ e2) : v1.ownBlock = none ∨ v1.ownBlock ≠ v2.ownBlock := by
  cases hv : v1.ownBlock with
  | none => exact .inl rfl
  | some k =>
    right
    intro e
    obtain ⟨C, f, hC⟩ := row_block h hv
    obtain ⟨D, f', hD⟩ := row_block h' e.symm
    rw [hC] at hD
    injection hD with hD
    injection hD with _ hD _
    exact hne hD
def OwnsI (B : Nat) (w : World) (v : Value) (es : List Int) : Prop := w.ownsRow B 3 1 v es.length (es.map (Value.int .i64))
theorem OwnsI.below {B : Nat} {w w' : World} {v : Value} {es : List Int} (h : OwnsI B w v es) (hb : Below w.heap.size w w') : OwnsI B w' v es :=
  World.ownsRow.kept h (row := none) ⟨hb.os, hb.tape, hb.output, hb.size, fun j hj _ => hb.block j hj⟩ (by cases hv : v.ownBlock <;> simp)
theorem OwnsI.ints {B : Nat} {w : World} {v : Value} {es : List Int} (h : OwnsI B w v es) : ∃ A c, v = .slice A es.length c ∧ Ints .i64 w.heap.size w A es := ints_own h
/-- A record, bytes, a number appended: what else is one's own stays. -/
theorem wpList_appendRg {ops : Array Oper} {rest : List Oper} {o : Oper} {a : Act} {Q : Exit → Act → World → Prop} {W : World} (hgd : o.guard = none) (s x : Operand) (ho : o.op = .call { callee := .builtin .append, args := #[s, x], argTypes := #[28, 28] })
    (base : Nat) (v : Value) (rs : List RecD) (hs : a.eval s = v) (hown : OwnsR base W v rs) (r : RecD) (b c : Nat) (hx : a.eval x = .slice (some ⟨b, 0, none⟩) 1 c) (hb : RecO W b 0 r) (hl : rs.length ≤ 2000) (hbase : base ≤ W.heap.size) (w0 : World) (hbel : Below base w0 W)
    (hnn : v ≠ .slice none 0 0) (h : ∀ v' w', OwnsR base w' v' (rs ++ [r]) → v' ≠ .slice none 0 0 → W.grownBy w' v.ownBlock → Below base w0 w' → wpList Try.prog ops Q rest (a.put o.dst v') w') : wpList Try.prog ops Q (o :: rest) a W := by
  obtain ⟨i0, hi, hz0, hz1, hz2⟩ := info_parts info_rec
  refine wpList_append_own W hgd s x 28 ho base 48 i0 _ 11 56 Try.underlying28 hi hz0 hz1 hz2 rfl (by decide) v rs.length _ hs hown ⟨b, 0, none⟩ 1 c (recC r) hx rfl (fun j u hu => ?_) (recC_one r) (by simp only [maxLen]; omega) (by omega) hbase (fun v' w' hown' hgrow hiff => h v' w' ?_ (fun e => hnn (hiff.1 e).1) hgrow (hbel.grown hgrow hbase (fun k e => (World.ownsRow.lt hown k e).1)))
  · rw [Go.WideShapes.add_plain]
    exact hb j u hu
  · unfold OwnsR
    rw [List.length_append, List.flatMap_append]
    simpa using hown'
theorem wpList_appendBg {ops : Array Oper} {rest : List Oper} {o : Oper} {a : Act} {Q : Exit → Act → World → Prop} {W : World} (hgd : o.guard = none) (s x : Operand) (ho : o.op = .call { callee := .builtin .append, args := #[s, x], argTypes := #[52, 52] })
    (base : Nat) (v : Value) (zs : List Int) (hs : a.eval s = v) (hown : Owns base W v zs) (A' : Option Addr) (ts : List Int) (l' c' : Nat) (hx : a.eval x = .slice A' l' c') (hll : ts.length = l') (h0 : 0 < l') (g : Good A' c' ts W) (hl : zs.length + ts.length ≤ 10000) (hbase : base ≤ W.heap.size) (w0 : World) (hb : Below base w0 W)
    (hnn : v ≠ .slice none 0 0) (h : ∀ v' w', Owns base w' v' (zs ++ ts) → v' ≠ .slice none 0 0 → W.grownBy w' v.ownBlock → Below base w0 w' → wpList Try.prog ops Q rest (a.put o.dst v') w') : wpList Try.prog ops Q (o :: rest) a W := by
  obtain ⟨i0, hi, hz0, hz1, hz2⟩ := info_parts info_u8
  obtain ⟨b, off, rfl⟩ := g.some (by omega)
  refine wpList_append_own W hgd s x 52 ho base 5 i0 (.int .u8 0) 1 1 Try.underlying52 hi hz0 hz1 hz2 rfl (by decide) v zs.length _ hs hown ⟨b, off, none⟩ l' c' (ts.map (Value.int .u8)) hx (by simp [hll]) (cells_of_good rfl g) (one_u8 ts) (by simp only [maxLen]; omega) (by omega) hbase (fun v' w' hown' hgrow hiff => h v' w' ?_ (fun e => hnn (hiff.1 e).1) hgrow (hb.grown hgrow hbase (fun k e => (World.ownsRow.lt hown k e).1)))
  unfold Owns
  rw [List.length_append, List.map_append, hll]
  exact hown'
theorem wpList_appendIg {ops : Array Oper} {rest : List Oper} {o : Oper} {a : Act} {Q : Exit → Act → World → Prop} {W : World} (hgd : o.guard = none) (s x : Operand) (ho : o.op = .call { callee := .builtin .append, args := #[s, x], argTypes := #[108, 108] })
    (base : Nat) (v : Value) (es : List Int) (hs : a.eval s = v) (hown : OwnsI base W v es) (n : Int) (b c : Nat) (hx : a.eval x = .slice (some ⟨b, 0, none⟩) 1 c) (hc : W.cell? ⟨b, 0, none⟩ = some (.int .i64 n)) (hl : es.length ≤ 2000) (hbase : base ≤ W.heap.size) (w0 : World) (hb : Below base w0 W)
    (h : ∀ v' w', OwnsI base w' v' (es ++ [n]) → W.grownBy w' v.ownBlock → Below base w0 w' → wpList Try.prog ops Q rest (a.put o.dst v') w') : wpList Try.prog ops Q (o :: rest) a W := by
  obtain ⟨i0, hi, hz0, hz1, hz2⟩ := info_parts info_int
  refine wpList_append_own W hgd s x 108 ho base 3 i0 (.int .i64 0) 1 8 Try.underlying108 hi hz0 hz1 hz2 rfl (by decide) v es.length _ hs hown ⟨b, 0, none⟩ 1 c [.int .i64 n] hx rfl (fun j u hu => ?_) (by simp [Value.oneCell']) (by simp only [maxLen]; omega) (by omega) hbase (fun v' w' hown' hgrow _ => h v' w' ?_ hgrow (hb.grown hgrow hbase (fun k e => (World.ownsRow.lt hown k e).1)))
  · match j, hu with
    | 0, hu =>
      simp at hu
      subst hu
      rw [Go.WideShapes.add_plain]
      exact hc
  · unfold OwnsI
    rw [List.length_append, List.map_append]
    exact hown'

/-! ### RecBack's three rows -/
def endsL (L : List RecD) : List Int := (List.range (L.length + 1)).map fun j => ((endsN L j : Nat) : Int)
theorem endsL_length (L : List RecD) : (endsL L).length = L.length + 1 := by simp [endsL]
theorem endsL_at (L : List RecD) (j : Nat) (h : j ≤ L.length) : (endsL L)[j]?.getD 0 = ((endsN L j : Nat) : Int) := by
  have hj : j < L.length + 1 := by omega
  simp [endsL, hj]
theorem endsL_snoc (L : List RecD) (r : RecD) : endsL (L ++ [r]) = endsL L ++ [(((joinL L).length + (encL r).length : Nat) : Int)] := by
  unfold endsL
  rw [List.length_append, List.length_singleton, List.range_succ, List.map_append]
  congr 1
  · apply List.map_congr_left
    intro j hj
    have hj' : j ≤ L.length := by have := List.mem_range.1 hj; omega
    unfold endsN
    rw [List.take_append_of_le_length hj']
  · simp only [List.map_cons, List.map_nil]
    congr 2
    unfold endsN
    rw [List.take_of_length_le (by simp), joinL_snoc, List.length_append]
structure Bk (B : Nat) (w0 W : World) (v5 v6 v7 : Value) (L : List RecD) : Prop where
  l : OwnsR B W v5 L
  e : OwnsI B W v6 (endsL L)
  a : Owns B W v7 (joinL L)
  b : Below B w0 W
  n5 : v5 ≠ .slice none 0 0
  n7 : v7 ≠ .slice none 0 0
theorem OwnsR.there {B : Nat} {w : World} {v : Value} {rs : List RecD} (h : OwnsR B w v rs) (hn : v ≠ .slice none 0 0) : ∃ g c, v = .slice (some ⟨g, 0, none⟩) rs.length c ∧ GoodR (some ⟨g, 0, none⟩) c rs w := by
  obtain ⟨A, c, rfl, g⟩ := h.good
  rcases h.2 with ⟨e, _⟩ | ⟨g', cap, cur, e, _⟩
  · exact absurd e hn
  · injection e with e1 e2 e3
    subst e1
    exact ⟨g', c, rfl, g⟩
theorem Owns.there {B : Nat} {w : World} {v : Value} {zs : List Int} (h : Owns B w v zs) (hn : v ≠ .slice none 0 0) : ∃ g c, v = .slice (some ⟨g, 0, none⟩) zs.length c ∧ Good (some ⟨g, 0, none⟩) c zs w := by
  obtain ⟨A, c, rfl, g⟩ := h.good
  rcases h.2 with ⟨e, _⟩ | ⟨g', cap, cur, e, _⟩
  · exact absurd e hn
  · injection e with e1 e2 e3
    subst e1
    exact ⟨g', c, rfl, g⟩
theorem Bk.below {B : Nat} {w0 W W' : World} {v5 v6 v7 : Value} {L : List RecD} (h : Bk B w0 W v5 v6 v7 L) (hb : Below W.heap.size W W') (hB : B ≤ w0.heap.size) : Bk B w0 W' v5 v6 v7 L := ⟨h.l.below hb, h.e.below hb, h.a.below hb, below_more h.b hb hB, h.n5, h.n7⟩
theorem heap3 (w : World) (o1 o2 o3 : Obj) : (((w.alloc o1).alloc o2).alloc o3).heap[w.heap.size]? = some o1 ∧ (((w.alloc o1).alloc o2).alloc o3).heap[w.heap.size + 1]? = some o2 ∧ (((w.alloc o1).alloc o2).alloc o3).heap[w.heap.size + 1 + 1]? = some o3 := by
  refine ⟨?_, ?_, ?_⟩
  · rw [Below.heap_alloc _ _ _ (by simp; omega), Below.heap_alloc _ _ _ (by simp), heap_alloc_new]
  · rw [Below.heap_alloc _ _ _ (by simp), heap2n]
  · have := heap_alloc_new ((w.alloc o1).alloc o2) o3
    rw [show ((w.alloc o1).alloc o2).heap.size = w.heap.size + 1 + 1 by simp] at this
    exact this
theorem bk_start (w w0 : World) (h : Below w.heap.size w w0) : Bk w.heap.size w (((w0.alloc (.cells #[] 48)).alloc (.cells #[.int .i64 0] 3)).alloc (.cells #[] 5)) (.slice (some ⟨w0.heap.size, 0, none⟩) 0 0) (.slice (some ⟨w0.heap.size + 1, 0, none⟩) 1 1) (.slice (some ⟨w0.heap.size + 1 + 1, 0, none⟩) 0 0) [] := by
  obtain ⟨h1, h2, h3⟩ := heap3 w0 (.cells #[] 48) (.cells #[.int .i64 0] 3) (.cells #[] 5)
  have hs := h.size
  refine ⟨⟨rfl, .inr ⟨w0.heap.size, 0, #[], rfl, hs, h1, Nat.le_refl _, by simp, rfl, rfl⟩⟩, ⟨rfl, .inr ⟨w0.heap.size + 1, 1, #[.int .i64 0], rfl, by omega, h2, Nat.le_refl _, by simp [maxLen], rfl, rfl⟩⟩, ⟨rfl, .inr ⟨w0.heap.size + 1 + 1, 0, #[], rfl, by omega, h3, Nat.le_refl _, by simp, rfl, rfl⟩⟩, ?_, (fun e => by cases e), (fun e => by cases e)⟩
  exact ((h.alloc hs _).alloc (by simp; omega) _).alloc (by simp; omega) _
end Go.Proofs.Ytdmkkfpbgpijjaa
namespace Go.Proofs.Ytdmkkfpbgpijjaa
open Go.RowKit Go.Deep
set_option linter.unusedVariables false

instance recDec : DecidableEq RecD := fun a b => if h : eqR a b = true then isTrue ((eqR_iff a b).1 h) else isFalse fun e => h ((eqR_iff a b).2 e)
instance logDec : DecidableEq LogD := fun a b => if h : a.next = b.next ∧ a.first = b.first ∧ a.sure = b.sure then isTrue (by cases a; cases b; simp_all) else isFalse (by rintro rfl; exact h ⟨rfl, rfl, rfl⟩)
def q5 : RecD := ⟨4, 5, 0, 0, 0, 0, 0, false, 0, false, 0⟩
def q6 : RecD := ⟨5, 6, 0, 0, 0, 0, 0, false, 0, false, 0⟩
def g0 : LogD := ⟨1, 1, 1⟩
def s1 : St := appS 4 g0 (newS 4) [q5]
def g1 : LogD := appL g0 [q5]
def s2 : St := flushS s1
def g2 : LogD := forL g1
def s3 : St := appS 4 g2 s2 [q6]
def g3 : LogD := appL g2 [q6]
def s4 : St := crashS s3 0 9
def g4 : LogD := ⟨2, 1, 1⟩
def s5 : St := chkS 4 g4 s4 [q5]
def g5 : LogD := chkL g4 [q5]
def s6 : St := flushS s5
def g6 : LogD := forL g5
theorem f1_ok : fitsE 4 g0 [q5] 0 0 = 0 := by decide +kernel
theorem f3_ok : fitsE 4 g2 [q6] 0 0 = 0 := by decide +kernel
theorem f5_ok : fitsE 4 g4 [q5] 1 0 = 0 := by decide +kernel
theorem f6_no : fitsE 4 g6 [q5] 0 3 = 15 := by decide +kernel
theorem t4 : tells (nows s4) = some (g4, [q5]) := by decide +kernel
theorem c1_le : (newS 4).cache.length + nOf [q5] ≤ 999 := by decide +kernel
theorem c2_le : s1.cache.length ≤ 1000 := by decide +kernel
theorem c3_le : s2.cache.length + nOf [q6] ≤ 999 := by decide +kernel
theorem c4_le : s3.cache.length ≤ 1000 := by decide +kernel
theorem c5_le : s4.cache.length + nOf [q5] + 1 ≤ 999 := by decide +kernel
theorem c6_le : s5.cache.length ≤ 1000 := by decide +kernel
theorem q5_ok : ∀ r ∈ [q5], okR r := by intro r hr; simp at hr; subst hr; exact ⟨by decide, by decide, by decide, by decide, by decide, ⟨by decide, by decide⟩, ⟨by decide, by decide⟩⟩
theorem q6_ok : ∀ r ∈ [q6], okR r := by intro r hr; simp at hr; subst hr; exact ⟨by decide, by decide, by decide, by decide, by decide, ⟨by decide, by decide⟩, ⟨by decide, by decide⟩⟩
theorem free1 : ((4 : Nat) : Int) - g1.next + g1.sure = 3 := by decide +kernel
theorem free6 : ((4 : Nat) : Int) - g6.next + g6.sure = 2 := by decide +kernel
theorem next6 : ((g6.next : Nat) : Int) = 4 := by decide +kernel
theorem first6 : ((g6.first : Nat) : Int) = 2 := by decide +kernel
theorem sect5 : (if [q5].all rightB then (nOf [q5] : Int) else -1) = 1 := by decide +kernel
theorem i64_0 : isI64 0 := ⟨by decide, by decide⟩
theorem i64_3 : isI64 3 := ⟨by decide, by decide⟩
theorem ok4 : LogOK 4 g4 := ⟨by decide, by decide, by decide, by decide, by decide, by decide⟩
theorem goodR_lit (w : World) (r : RecD) (C : Array Value) (hC : C = (recC r).toArray) : GoodR (some ⟨w.heap.size, 0, none⟩) 1 [r] (w.alloc (.cells C 48)) := by
  subst hC
  refine ⟨fun _ => ⟨w.heap.size, 0, rfl, by simp, fun j x hx i v hv => ?_⟩, by simp, fun e => by cases e⟩
  cases j with
  | zero =>
    simp at hx
    subst hx
    rw [cell_of_row _ _ _ _ 48 (0, 0) (heap_alloc_new w _)]
    simpa using hv
  | succ j => simp at hx
theorem LHas.free {LI : World → (Nat → Prop) → Nat → Nat → LogD → Prop} (S : WalOK LI) {B : Nat} {w0 : World} {X : Nat → Prop} {w : World} {lb db N : Nat} {st : St} {lg : LogD} (h : LHas LI B w0 X w lb db N st lg) (q : Int) (hq : (N : Int) - lg.next + lg.sure = q) : Calls Try.prog 17 #[.pointer (some ⟨lb, 0, none⟩)] w fun e w' => e = .returned (.int .i64 q) ∧ Below w.heap.size w w' := by
  obtain ⟨FL, FD, hs, _, _⟩ := h.ex
  rw [← hq]
  exact S.free FL FD lb db N st lg w hs
theorem LHas.next {LI : World → (Nat → Prop) → Nat → Nat → LogD → Prop} (S : WalOK LI) {B : Nat} {w0 : World} {X : Nat → Prop} {w : World} {lb db N : Nat} {st : St} {lg : LogD} (h : LHas LI B w0 X w lb db N st lg) (q : Int) (hq : (lg.next : Int) = q) : Calls Try.prog 20 #[.pointer (some ⟨lb, 0, none⟩)] w fun e w' => e = .returned (.int .i64 q) ∧ Below w.heap.size w w' := by
  obtain ⟨FL, FD, hs, _, _⟩ := h.ex
  rw [← hq]
  exact S.next FL FD lb db N st lg w hs
theorem LHas.first {LI : World → (Nat → Prop) → Nat → Nat → LogD → Prop} (S : WalOK LI) {B : Nat} {w0 : World} {X : Nat → Prop} {w : World} {lb db N : Nat} {st : St} {lg : LogD} (h : LHas LI B w0 X w lb db N st lg) (q : Int) (hq : (lg.first : Int) = q) : Calls Try.prog 22 #[.pointer (some ⟨lb, 0, none⟩)] w fun e w' => e = .returned (.int .i64 q) ∧ Below w.heap.size w w' := by
  obtain ⟨FL, FD, hs, _, _⟩ := h.ex
  rw [← hq]
  exact S.first FL FD lb db N st lg w hs
theorem dhas_new {N : Nat} {w w1 : World} {db : Nat} (hd : DiskAt w1 (fun k => w.heap.size ≤ k ∧ k < w1.heap.size) db N (newS N)) (k1 : Below w.heap.size w w1) : DHas w.heap.size w (fun _ => False) w1 db N (newS N) := ⟨⟨_, hd, fun k hk => ⟨hk.1, fun e => e⟩⟩, bytes_new N, k1, k1.size⟩
set_option maxRecDepth 100000 in
set_option maxHeartbeats 2000000 in
theorem alive5 {LI : World → (Nat → Prop) → Nat → Nat → LogD → Prop} (S : WalOK LI) (w : World) : Calls Try.prog 8 #[] w fun e w' => e = .returned (.bool true) ∧ Below w.heap.size w w' := by
  have F1 := new_ok 4 w (by omega) (by omega)
  unfold NewSays at F1
  have HK := Lib.hid S
  clear S
  go_enter Try.func8, Try.ntmps8
  go_wp2_with fail
  refine F1.mono ?_
  rintro e w1 ⟨db, rfl, hd, k1⟩
  have h1 := dhas_new hd k1
  clear F1 hd k1
  go_wp2_with fail
  refine (h1.opens HK.out (fun k h => h.elim) (tells_new 4) (logOK_new 4 (by omega))).mono ?_
  rintro e w2 ⟨lb, v, rfl, o2, h2, k2⟩
  obtain ⟨A2, c2, rfl, _⟩ := o2.good
  have h2 : LHas LI w.heap.size w (fun _ => False) w2 lb db 4 (newS 4) g0 := h2.addX HK.out (fun k h => h.elim)
  clear h1 o2 k2
  go_wp2_with fail
  (with_reducible refine (h2.free HK.out 4 (by decide +kernel)).mono ?_)
  rintro e w3 ⟨rfl, k3⟩
  have h3 := h2.keep HK.out k3
  clear h2 k3
  have h3x := h3.addX HK.out (X' := fun k => k = w3.heap.size) (fun k hk => .inr (Nat.le_of_eq hk.symm))
  have ka : Below w3.heap.size w3 (w3.alloc (.cells #[.int .i64 4, .int .i64 5, .int .u16 0, .int .u8 0, .int .u8 0, .int .u8 0, .int .u8 0, .bool false, .int .i64 0, .bool false, .int .i64 0] 48)) := (Below.refl _ _).alloc (Nat.le_refl _) _
  have h4 := h3x.keep HK.out ka
  have gx4 : GoodR (some ⟨w3.heap.size, 0, none⟩) 1 [q5] (w3.alloc (.cells #[.int .i64 4, .int .i64 5, .int .u16 0, .int .u8 0, .int .u8 0, .int .u8 0, .int .u8 0, .bool false, .int .i64 0, .bool false, .int .i64 0] 48)) := goodR_lit w3 q5 _ rfl
  have hx4 : ∀ k, k = w3.heap.size → k < (w3.alloc (.cells #[.int .i64 4, .int .i64 5, .int .u16 0, .int .u8 0, .int .u8 0, .int .u8 0, .int .u8 0, .bool false, .int .i64 0, .bool false, .int .i64 0] 48)).heap.size := fun k hk => by rw [hk]; simp
  clear h3 h3x ka
  go_wp2_with fail
  (with_reducible refine (h4.does hx4 (fun FL FD hs => HK.out.app_yes FL FD lb db 4 (newS 4) g0 (some ⟨w3.heap.size, 0, none⟩) 1 1 [q5] 0 _ hs rfl (by omega) q5_ok gx4 i64_0 c1_le f1_ok)).mono ?_)
  rintro e w5 ⟨rfl, h5, t5⟩
  have h5 : LHas LI w.heap.size w (fun k => k = w3.heap.size) w5 lb db 4 s1 g1 := h5
  have gx5 := t5.goodR gx4 (fun b off e => by cases e; exact ⟨rfl, hx4 _ rfl⟩)
  have hx5 : w3.heap.size < w5.heap.size := Nat.lt_of_lt_of_le (hx4 _ rfl) t5.1
  clear h4 gx4 hx4 t5
  generalize w3.heap.size = xb at *
  go_wp2_with fail
  (with_reducible refine (h5.free HK.out 3 free1).mono ?_)
  rintro e w6 ⟨rfl, k6⟩
  have h6 := h5.keep HK.out k6
  have gx6 := gx5.below k6
  have hx6 : xb < w6.heap.size := Nat.lt_of_lt_of_le hx5 k6.size
  clear h5 gx5 hx5 k6
  go_wp2_with fail
  (with_reducible refine (h6.does (fun k hk => by rw [hk]; exact hx6) (fun FL FD hs => HK.out.force FL FD lb db 4 s1 g1 _ hs c2_le)).mono ?_)
  rintro e w7 ⟨rfl, h7, t7⟩
  have h7 : LHas LI w.heap.size w (fun k => k = xb) w7 lb db 4 s2 g2 := h7
  have gx7 := t7.goodR gx6 (fun b off e => by cases e; exact ⟨rfl, hx6⟩)
  have hx7 : xb < w7.heap.size := Nat.lt_of_lt_of_le hx6 t7.1
  clear h6 gx6 hx6 t7
  have ka : Below w7.heap.size w7 (w7.alloc (.cells #[.int .i64 5, .int .i64 6, .int .u16 0, .int .u8 0, .int .u8 0, .int .u8 0, .int .u8 0, .bool false, .int .i64 0, .bool false, .int .i64 0] 48)) := (Below.refl _ _).alloc (Nat.le_refl _) _
  have h8 := h7.keep HK.out ka
  have gx8 := gx7.below ka
  have hx8 : xb < (w7.alloc (.cells #[.int .i64 5, .int .i64 6, .int .u16 0, .int .u8 0, .int .u8 0, .int .u8 0, .int .u8 0, .bool false, .int .i64 0, .bool false, .int .i64 0] 48)).heap.size := Nat.lt_of_lt_of_le hx7 ka.size
  have gy8 : GoodR (some ⟨w7.heap.size, 0, none⟩) 1 [q6] (w7.alloc (.cells #[.int .i64 5, .int .i64 6, .int .u16 0, .int .u8 0, .int .u8 0, .int .u8 0, .int .u8 0, .bool false, .int .i64 0, .bool false, .int .i64 0] 48)) := goodR_lit w7 q6 _ rfl
  clear h7 gx7 hx7 ka
  go_wp2_with fail
  (with_reducible refine (h8.does (fun k hk => by rw [hk]; exact hx8) (fun FL FD hs => HK.out.app_yes FL FD lb db 4 s2 g2 (some ⟨w7.heap.size, 0, none⟩) 1 1 [q6] 0 _ hs rfl (by omega) q6_ok gy8 i64_0 c3_le f3_ok)).mono ?_)
  rintro e w9 ⟨rfl, h9, t9⟩
  have h9 : LHas LI w.heap.size w (fun k => k = xb) w9 lb db 4 s3 g3 := h9
  have gx9 := t9.goodR gx8 (fun b off e => by cases e; exact ⟨rfl, hx8⟩)
  have hx9 : xb < w9.heap.size := Nat.lt_of_lt_of_le hx8 t9.1
  clear h8 gx8 hx8 t9 gy8
  go_wp2_with fail
  (with_reducible refine (h9.disk.crash (fun k hk => by rw [hk]; exact hx9) 0 9 c4_le).mono ?_)
  rintro e w10 ⟨rfl, h10, t10⟩
  have h10 : DHas w.heap.size w (fun k => k = xb) w10 db 4 s4 := h10
  have gx10 := t10.goodR gx9 (fun b off e => by cases e; exact ⟨rfl, hx9⟩)
  have hx10 : xb < w10.heap.size := Nat.lt_of_lt_of_le hx9 t10.1
  clear h9 gx9 hx9 t10
  go_wp2_with fail
  refine (h10.opens HK.out (fun k hk => by rw [hk]; exact hx10) t4 ok4).mono ?_
  rintro e w11 ⟨lb2, v, rfl, o11, h11, k11⟩
  have hv11 := ownsR_ge o11
  have gx11 := gx10.below k11
  have hx11 : xb < w11.heap.size := Nat.lt_of_lt_of_le hx10 k11.size
  have hxx : ∀ k, (k = xb ∨ v.ownBlock = some k) → k < w11.heap.size := fun k hk => by
    rcases hk with rfl | hk
    · exact hx11
    · exact (hv11 k hk).2
  clear h10 gx10 hx10 k11
  obtain ⟨A2', c2', rfl, _⟩ := o11.good
  go_wp2_with fail
  (with_reducible refine (h11.does hxx (fun FL FD hs => HK.out.chk_yes FL FD lb2 db 4 s4 g4 (some ⟨xb, 0, none⟩) 1 1 [q5] 0 _ hs rfl (by omega) q5_ok gx11 i64_0 c5_le f5_ok)).mono ?_)
  rintro e w12 ⟨rfl, h12, t12⟩
  have h12 : LHas LI w.heap.size w (fun k => k = xb ∨ (Value.slice A2' [q5].length c2').ownBlock = some k) w12 lb2 db 4 s5 g5 := h12
  have gx12 := t12.goodR gx11 (fun b off e => by cases e; exact ⟨.inl rfl, hx11⟩)
  have o12 := t12.ownsR o11 (fun k hk => .inr hk)
  have hxx12 : ∀ k, (k = xb ∨ (Value.slice A2' [q5].length c2').ownBlock = some k) → k < w12.heap.size := fun k hk => Nat.lt_of_lt_of_le (hxx k hk) t12.1
  clear h11 gx11 hx11 t12 o11 hv11 hxx
  go_wp2_with fail
  (with_reducible refine (h12.does hxx12 (fun FL FD hs => HK.out.force FL FD lb2 db 4 s5 g5 _ hs c6_le)).mono ?_)
  rintro e w13 ⟨rfl, h13, t13⟩
  have h13 : LHas LI w.heap.size w (fun k => k = xb ∨ (Value.slice A2' [q5].length c2').ownBlock = some k) w13 lb2 db 4 s6 g6 := h13
  have gx13 := t13.goodR gx12 (fun b off e => by cases e; exact ⟨.inl rfl, hxx12 _ (.inl rfl)⟩)
  have o13 := t13.ownsR o12 (fun k hk => .inr hk)
  have hxx13 : ∀ k, (k = xb ∨ (Value.slice A2' [q5].length c2').ownBlock = some k) → k < w13.heap.size := fun k hk => Nat.lt_of_lt_of_le (hxx12 k hk) t13.1
  obtain ⟨A3', c3', e3, gs13⟩ := o13.good
  injection e3 with e4 e5 e6
  subst e4 e6
  clear h12 gx12 t13 o12 hxx12
  have hR := fun W h h' => sameR A2' (some ⟨xb, 0, none⟩) [q5] 1 c2' 1 rfl (by omega) W h h'
  go_wp2_with fail
  (with_reducible refine (hR _ gs13 gx13).mono ?_)
  rintro e w14 ⟨rfl, k14⟩
  have h14 := h13.keep HK.out k14
  have gx14 := gx13.below k14
  clear h13 gx13 gs13 hR
  have hxx14 : ∀ k, (k = xb ∨ (Value.slice A2' [q5].length c2').ownBlock = some k) → k < w14.heap.size := fun k hk => Nat.lt_of_lt_of_le (hxx13 k hk) k14.size
  clear hxx13 k14
  go_wp2_with fail
  (with_reducible refine (h14.next HK.out 4 next6).mono ?_)
  rintro e w15 ⟨rfl, k15⟩
  have h15 := h14.keep HK.out k15
  have gx15 := gx14.below k15
  have hxx15 : ∀ k, (k = xb ∨ (Value.slice A2' [q5].length c2').ownBlock = some k) → k < w15.heap.size := fun k hk => Nat.lt_of_lt_of_le (hxx14 k hk) k15.size
  clear h14 gx14 hxx14 k15
  go_wp2_with fail
  (with_reducible refine (h15.first HK.out 2 first6).mono ?_)
  rintro e w16 ⟨rfl, k16⟩
  have h16 := h15.keep HK.out k16
  have gx16 := gx15.below k16
  have hxx16 : ∀ k, (k = xb ∨ (Value.slice A2' [q5].length c2').ownBlock = some k) → k < w16.heap.size := fun k hk => Nat.lt_of_lt_of_le (hxx15 k hk) k16.size
  clear h15 gx15 hxx15 k16
  go_wp2_with fail
  (with_reducible refine (h16.free HK.out 2 free6).mono ?_)
  rintro e w17 ⟨rfl, k17⟩
  have h17 := h16.keep HK.out k17
  have gx17 := gx16.below k17
  have hxx17 : ∀ k, (k = xb ∨ (Value.slice A2' [q5].length c2').ownBlock = some k) → k < w17.heap.size := fun k hk => Nat.lt_of_lt_of_le (hxx16 k hk) k17.size
  clear h16 gx16 hxx16 k17
  go_wp2_with fail
  (with_reducible refine (h17.does hxx17 (fun FL FD hs => HK.out.app_no FL FD lb2 db 4 s6 g6 (some ⟨xb, 0, none⟩) 1 1 [q5] 3 15 _ hs rfl (by omega) q5_ok gx17 i64_3 f6_no (by omega))).mono ?_)
  rintro e w18 ⟨rfl, h18, t18⟩
  have gx18 := t18.goodR gx17 (fun b off e => by cases e; exact ⟨.inl rfl, hxx17 _ (.inl rfl)⟩)
  clear h17 gx17 hxx17 t18
  have F9 := HK.out.sectors (some ⟨xb, 0, none⟩) 1 1 [q5] w18 rfl (by omega) q5_ok gx18
  rw [sect5] at F9
  go_wp2_with fail
  refine F9.mono ?_
  rintro e w19 ⟨rfl, k19⟩
  have hb := Lib.hid (h18.below.trans (k19.mono h18.size))
  clear h18 gx18 F9 k19
  go_wp2
  go_ret
  exact ⟨rfl, hb.out⟩
end Go.Proofs.Ytdmkkfpbgpijjaa
namespace Go.Proofs.Ytdmkkfpbgpijjaa
open Go.RowKit Go.Deep

set_option maxRecDepth 100000 in
set_option maxHeartbeats 400000 in
theorem refValue_any (t : Bool) (n : Int) (b : Bool) (hb : okVal t n = b) (w : World) : Calls Try.prog 37 #[.agg #[.bool t, .int .i64 n]] w fun e w' => e = .returned (.bool b) ∧ Below w.heap.size w w' := by
  subst hb
  cases t
  all_goals
    go_enter Try.func37, Try.ntmps37
    go_wp2
    go_ret
    exact ⟨rfl, (Below.refl _ _).alloc (Nat.le_refl _) _⟩
set_option maxRecDepth 100000 in
set_option maxHeartbeats 1000000 in
theorem refRight_2 (r : RecD) (hk : r.kind = 2) (b : Bool) (hb : rightB r = b) (w : World) : Calls Try.prog 18 #[recV r] w fun e w' => e = .returned (.bool b) ∧ Below w.heap.size w w' := by
  obtain ⟨kind, tx, mask, k0, k1, k2, k3, oT, oN, nT, nN⟩ := r
  dsimp only at hk
  subst hk
  simp [rightB] at hb
  rw [recV_eq]
  dsimp only
  cases h3 : eqR ⟨2, tx, mask, k0, k1, k2, k3, oT, oN, nT, nN⟩ ⟨2, tx, mask, 0, 0, 0, 0, false, 0, false, 0⟩ <;> rw [h3] at hb
  · simp at hb; subst hb
    go_enter Try.func18, Try.ntmps18
    go_wp2_with (first | refine wpList_eqR (by rfl) _ _ rfl ⟨2, tx, mask, k0, k1, k2, k3, oT, oN, nT, nN⟩ ⟨2, tx, mask, 0, 0, 0, 0, false, 0, false, 0⟩ (by rfl) (by rfl) _ h3 ?_)
    go_ret
    refine ⟨rfl, ?_⟩
    repeat first | exact Below.refl _ _ | refine Below.setCell ?_ (by first | exact Nat.le_refl _ | simp | (simp; omega)) _ | refine Below.alloc ?_ (by first | exact Nat.le_refl _ | simp | (simp; omega)) _
  · by_cases h1 : 1 ≤ tx
    · by_cases h2 : tx ≤ 1048576
      · simp [okTx, h1, h2] at hb
        cases h4 : ((mask : Int) != 0) <;> rw [h4] at hb <;> subst hb
        all_goals
          go_enter Try.func18, Try.ntmps18
          go_wp2_with (first | refine wpList_eqR (by rfl) _ _ rfl ⟨2, tx, mask, k0, k1, k2, k3, oT, oN, nT, nN⟩ ⟨2, tx, mask, 0, 0, 0, 0, false, 0, false, 0⟩ (by rfl) (by rfl) _ h3 ?_)
          go_ret
          refine ⟨rfl, ?_⟩
          repeat first | exact Below.refl _ _ | refine Below.setCell ?_ (by first | exact Nat.le_refl _ | simp | (simp; omega)) _ | refine Below.alloc ?_ (by first | exact Nat.le_refl _ | simp | (simp; omega)) _
      · simp [okTx, h2] at hb; subst hb
        go_enter Try.func18, Try.ntmps18
        go_wp2_with (first | refine wpList_eqR (by rfl) _ _ rfl ⟨2, tx, mask, k0, k1, k2, k3, oT, oN, nT, nN⟩ ⟨2, tx, mask, 0, 0, 0, 0, false, 0, false, 0⟩ (by rfl) (by rfl) _ h3 ?_)
        go_ret
        refine ⟨rfl, ?_⟩
        repeat first | exact Below.refl _ _ | refine Below.setCell ?_ (by first | exact Nat.le_refl _ | simp | (simp; omega)) _ | refine Below.alloc ?_ (by first | exact Nat.le_refl _ | simp | (simp; omega)) _
    · simp [okTx, h1] at hb; subst hb
      go_enter Try.func18, Try.ntmps18
      go_wp2_with (first | refine wpList_eqR (by rfl) _ _ rfl ⟨2, tx, mask, k0, k1, k2, k3, oT, oN, nT, nN⟩ ⟨2, tx, mask, 0, 0, 0, 0, false, 0, false, 0⟩ (by rfl) (by rfl) _ h3 ?_)
      go_ret
      refine ⟨rfl, ?_⟩
      repeat first | exact Below.refl _ _ | refine Below.setCell ?_ (by first | exact Nat.le_refl _ | simp | (simp; omega)) _ | refine Below.alloc ?_ (by first | exact Nat.le_refl _ | simp | (simp; omega)) _
set_option maxRecDepth 100000 in
set_option maxHeartbeats 1000000 in
theorem refRight_3 (r : RecD) (hk : r.kind = 3) (b : Bool) (hb : rightB r = b) (w : World) : Calls Try.prog 18 #[recV r] w fun e w' => e = .returned (.bool b) ∧ Below w.heap.size w w' := by
  obtain ⟨kind, tx, mask, k0, k1, k2, k3, oT, oN, nT, nN⟩ := r
  dsimp only at hk
  subst hk
  simp [rightB] at hb
  rw [recV_eq]
  dsimp only
  cases h3 : eqR ⟨3, tx, mask, k0, k1, k2, k3, oT, oN, nT, nN⟩ ⟨3, tx, 0, 0, 0, 0, 0, false, 0, false, 0⟩ <;> rw [h3] at hb
  · simp at hb; subst hb
    go_enter Try.func18, Try.ntmps18
    go_wp2_with (first | refine wpList_eqR (by rfl) _ _ rfl ⟨3, tx, mask, k0, k1, k2, k3, oT, oN, nT, nN⟩ ⟨3, tx, 0, 0, 0, 0, 0, false, 0, false, 0⟩ (by rfl) (by rfl) _ h3 ?_)
    go_ret
    refine ⟨rfl, ?_⟩
    repeat first | exact Below.refl _ _ | refine Below.setCell ?_ (by first | exact Nat.le_refl _ | simp | (simp; omega)) _ | refine Below.alloc ?_ (by first | exact Nat.le_refl _ | simp | (simp; omega)) _
  · by_cases h1 : 1 ≤ tx
    · by_cases h2 : tx ≤ 1048576
      · simp [okTx, h1, h2] at hb; subst hb
        go_enter Try.func18, Try.ntmps18
        go_wp2_with (first | refine wpList_eqR (by rfl) _ _ rfl ⟨3, tx, mask, k0, k1, k2, k3, oT, oN, nT, nN⟩ ⟨3, tx, 0, 0, 0, 0, 0, false, 0, false, 0⟩ (by rfl) (by rfl) _ h3 ?_)
        go_ret
        refine ⟨rfl, ?_⟩
        repeat first | exact Below.refl _ _ | refine Below.setCell ?_ (by first | exact Nat.le_refl _ | simp | (simp; omega)) _ | refine Below.alloc ?_ (by first | exact Nat.le_refl _ | simp | (simp; omega)) _
      · simp [okTx, h2] at hb; subst hb
        go_enter Try.func18, Try.ntmps18
        go_wp2_with (first | refine wpList_eqR (by rfl) _ _ rfl ⟨3, tx, mask, k0, k1, k2, k3, oT, oN, nT, nN⟩ ⟨3, tx, 0, 0, 0, 0, 0, false, 0, false, 0⟩ (by rfl) (by rfl) _ h3 ?_)
        go_ret
        refine ⟨rfl, ?_⟩
        repeat first | exact Below.refl _ _ | refine Below.setCell ?_ (by first | exact Nat.le_refl _ | simp | (simp; omega)) _ | refine Below.alloc ?_ (by first | exact Nat.le_refl _ | simp | (simp; omega)) _
    · simp [okTx, h1] at hb; subst hb
      go_enter Try.func18, Try.ntmps18
      go_wp2_with (first | refine wpList_eqR (by rfl) _ _ rfl ⟨3, tx, mask, k0, k1, k2, k3, oT, oN, nT, nN⟩ ⟨3, tx, 0, 0, 0, 0, 0, false, 0, false, 0⟩ (by rfl) (by rfl) _ h3 ?_)
      go_ret
      refine ⟨rfl, ?_⟩
      repeat first | exact Below.refl _ _ | refine Below.setCell ?_ (by first | exact Nat.le_refl _ | simp | (simp; omega)) _ | refine Below.alloc ?_ (by first | exact Nat.le_refl _ | simp | (simp; omega)) _
set_option maxRecDepth 100000 in
set_option maxHeartbeats 1000000 in
theorem refRight_4 (r : RecD) (hk : r.kind = 4) (b : Bool) (hb : rightB r = b) (w : World) : Calls Try.prog 18 #[recV r] w fun e w' => e = .returned (.bool b) ∧ Below w.heap.size w w' := by
  obtain ⟨kind, tx, mask, k0, k1, k2, k3, oT, oN, nT, nN⟩ := r
  dsimp only at hk
  subst hk
  simp [rightB] at hb
  rw [recV_eq]
  dsimp only
  cases h3 : eqR ⟨4, tx, mask, k0, k1, k2, k3, oT, oN, nT, nN⟩ ⟨4, tx, 0, 0, 0, 0, 0, false, 0, false, 0⟩ <;> rw [h3] at hb
  · simp at hb; subst hb
    go_enter Try.func18, Try.ntmps18
    go_wp2_with (first | refine wpList_eqR (by rfl) _ _ rfl ⟨4, tx, mask, k0, k1, k2, k3, oT, oN, nT, nN⟩ ⟨4, tx, 0, 0, 0, 0, 0, false, 0, false, 0⟩ (by rfl) (by rfl) _ h3 ?_)
    go_ret
    refine ⟨rfl, ?_⟩
    repeat first | exact Below.refl _ _ | refine Below.setCell ?_ (by first | exact Nat.le_refl _ | simp | (simp; omega)) _ | refine Below.alloc ?_ (by first | exact Nat.le_refl _ | simp | (simp; omega)) _
  · by_cases h1 : 1 ≤ tx
    · by_cases h2 : tx ≤ 1048576
      · simp [okTx, h1, h2] at hb; subst hb
        go_enter Try.func18, Try.ntmps18
        go_wp2_with (first | refine wpList_eqR (by rfl) _ _ rfl ⟨4, tx, mask, k0, k1, k2, k3, oT, oN, nT, nN⟩ ⟨4, tx, 0, 0, 0, 0, 0, false, 0, false, 0⟩ (by rfl) (by rfl) _ h3 ?_)
        go_ret
        refine ⟨rfl, ?_⟩
        repeat first | exact Below.refl _ _ | refine Below.setCell ?_ (by first | exact Nat.le_refl _ | simp | (simp; omega)) _ | refine Below.alloc ?_ (by first | exact Nat.le_refl _ | simp | (simp; omega)) _
      · simp [okTx, h2] at hb; subst hb
        go_enter Try.func18, Try.ntmps18
        go_wp2_with (first | refine wpList_eqR (by rfl) _ _ rfl ⟨4, tx, mask, k0, k1, k2, k3, oT, oN, nT, nN⟩ ⟨4, tx, 0, 0, 0, 0, 0, false, 0, false, 0⟩ (by rfl) (by rfl) _ h3 ?_)
        go_ret
        refine ⟨rfl, ?_⟩
        repeat first | exact Below.refl _ _ | refine Below.setCell ?_ (by first | exact Nat.le_refl _ | simp | (simp; omega)) _ | refine Below.alloc ?_ (by first | exact Nat.le_refl _ | simp | (simp; omega)) _
    · simp [okTx, h1] at hb; subst hb
      go_enter Try.func18, Try.ntmps18
      go_wp2_with (first | refine wpList_eqR (by rfl) _ _ rfl ⟨4, tx, mask, k0, k1, k2, k3, oT, oN, nT, nN⟩ ⟨4, tx, 0, 0, 0, 0, 0, false, 0, false, 0⟩ (by rfl) (by rfl) _ h3 ?_)
      go_ret
      refine ⟨rfl, ?_⟩
      repeat first | exact Below.refl _ _ | refine Below.setCell ?_ (by first | exact Nat.le_refl _ | simp | (simp; omega)) _ | refine Below.alloc ?_ (by first | exact Nat.le_refl _ | simp | (simp; omega)) _
set_option maxRecDepth 100000 in
set_option maxHeartbeats 1000000 in
theorem refRight_5 (r : RecD) (hk : r.kind = 5) (b : Bool) (hb : rightB r = b) (w : World) : Calls Try.prog 18 #[recV r] w fun e w' => e = .returned (.bool b) ∧ Below w.heap.size w w' := by
  obtain ⟨kind, tx, mask, k0, k1, k2, k3, oT, oN, nT, nN⟩ := r
  dsimp only at hk
  subst hk
  simp [rightB] at hb
  rw [recV_eq]
  dsimp only
  cases h3 : eqR ⟨5, tx, mask, k0, k1, k2, k3, oT, oN, nT, nN⟩ ⟨5, tx, 0, 0, 0, 0, 0, false, 0, false, 0⟩ <;> rw [h3] at hb
  · simp at hb; subst hb
    go_enter Try.func18, Try.ntmps18
    go_wp2_with (first | refine wpList_eqR (by rfl) _ _ rfl ⟨5, tx, mask, k0, k1, k2, k3, oT, oN, nT, nN⟩ ⟨5, tx, 0, 0, 0, 0, 0, false, 0, false, 0⟩ (by rfl) (by rfl) _ h3 ?_)
    go_ret
    refine ⟨rfl, ?_⟩
    repeat first | exact Below.refl _ _ | refine Below.setCell ?_ (by first | exact Nat.le_refl _ | simp | (simp; omega)) _ | refine Below.alloc ?_ (by first | exact Nat.le_refl _ | simp | (simp; omega)) _
  · by_cases h1 : 1 ≤ tx
    · by_cases h2 : tx ≤ 1048576
      · simp [okTx, h1, h2] at hb; subst hb
        go_enter Try.func18, Try.ntmps18
        go_wp2_with (first | refine wpList_eqR (by rfl) _ _ rfl ⟨5, tx, mask, k0, k1, k2, k3, oT, oN, nT, nN⟩ ⟨5, tx, 0, 0, 0, 0, 0, false, 0, false, 0⟩ (by rfl) (by rfl) _ h3 ?_)
        go_ret
        refine ⟨rfl, ?_⟩
        repeat first | exact Below.refl _ _ | refine Below.setCell ?_ (by first | exact Nat.le_refl _ | simp | (simp; omega)) _ | refine Below.alloc ?_ (by first | exact Nat.le_refl _ | simp | (simp; omega)) _
      · simp [okTx, h2] at hb; subst hb
        go_enter Try.func18, Try.ntmps18
        go_wp2_with (first | refine wpList_eqR (by rfl) _ _ rfl ⟨5, tx, mask, k0, k1, k2, k3, oT, oN, nT, nN⟩ ⟨5, tx, 0, 0, 0, 0, 0, false, 0, false, 0⟩ (by rfl) (by rfl) _ h3 ?_)
        go_ret
        refine ⟨rfl, ?_⟩
        repeat first | exact Below.refl _ _ | refine Below.setCell ?_ (by first | exact Nat.le_refl _ | simp | (simp; omega)) _ | refine Below.alloc ?_ (by first | exact Nat.le_refl _ | simp | (simp; omega)) _
    · simp [okTx, h1] at hb; subst hb
      go_enter Try.func18, Try.ntmps18
      go_wp2_with (first | refine wpList_eqR (by rfl) _ _ rfl ⟨5, tx, mask, k0, k1, k2, k3, oT, oN, nT, nN⟩ ⟨5, tx, 0, 0, 0, 0, 0, false, 0, false, 0⟩ (by rfl) (by rfl) _ h3 ?_)
      go_ret
      refine ⟨rfl, ?_⟩
      repeat first | exact Below.refl _ _ | refine Below.setCell ?_ (by first | exact Nat.le_refl _ | simp | (simp; omega)) _ | refine Below.alloc ?_ (by first | exact Nat.le_refl _ | simp | (simp; omega)) _
set_option maxRecDepth 100000 in
set_option maxHeartbeats 1000000 in
theorem refRight_6 (r : RecD) (hk : r.kind = 6) (b : Bool) (hb : rightB r = b) (w : World) : Calls Try.prog 18 #[recV r] w fun e w' => e = .returned (.bool b) ∧ Below w.heap.size w w' := by
  obtain ⟨kind, tx, mask, k0, k1, k2, k3, oT, oN, nT, nN⟩ := r
  dsimp only at hk
  subst hk
  simp [rightB] at hb
  rw [recV_eq]
  dsimp only
  cases h3 : eqR ⟨6, tx, mask, k0, k1, k2, k3, oT, oN, nT, nN⟩ ⟨6, tx, 0, 0, 0, 0, 0, false, 0, false, 0⟩ <;> rw [h3] at hb
  · simp at hb; subst hb
    go_enter Try.func18, Try.ntmps18
    go_wp2_with (first | refine wpList_eqR (by rfl) _ _ rfl ⟨6, tx, mask, k0, k1, k2, k3, oT, oN, nT, nN⟩ ⟨6, tx, 0, 0, 0, 0, 0, false, 0, false, 0⟩ (by rfl) (by rfl) _ h3 ?_)
    go_ret
    refine ⟨rfl, ?_⟩
    repeat first | exact Below.refl _ _ | refine Below.setCell ?_ (by first | exact Nat.le_refl _ | simp | (simp; omega)) _ | refine Below.alloc ?_ (by first | exact Nat.le_refl _ | simp | (simp; omega)) _
  · by_cases h1 : 1 ≤ tx
    · by_cases h2 : tx ≤ 1048576
      · simp [okTx, h1, h2] at hb; subst hb
        go_enter Try.func18, Try.ntmps18
        go_wp2_with (first | refine wpList_eqR (by rfl) _ _ rfl ⟨6, tx, mask, k0, k1, k2, k3, oT, oN, nT, nN⟩ ⟨6, tx, 0, 0, 0, 0, 0, false, 0, false, 0⟩ (by rfl) (by rfl) _ h3 ?_)
        go_ret
        refine ⟨rfl, ?_⟩
        repeat first | exact Below.refl _ _ | refine Below.setCell ?_ (by first | exact Nat.le_refl _ | simp | (simp; omega)) _ | refine Below.alloc ?_ (by first | exact Nat.le_refl _ | simp | (simp; omega)) _
      · simp [okTx, h2] at hb; subst hb
        go_enter Try.func18, Try.ntmps18
        go_wp2_with (first | refine wpList_eqR (by rfl) _ _ rfl ⟨6, tx, mask, k0, k1, k2, k3, oT, oN, nT, nN⟩ ⟨6, tx, 0, 0, 0, 0, 0, false, 0, false, 0⟩ (by rfl) (by rfl) _ h3 ?_)
        go_ret
        refine ⟨rfl, ?_⟩
        repeat first | exact Below.refl _ _ | refine Below.setCell ?_ (by first | exact Nat.le_refl _ | simp | (simp; omega)) _ | refine Below.alloc ?_ (by first | exact Nat.le_refl _ | simp | (simp; omega)) _
    · simp [okTx, h1] at hb; subst hb
      go_enter Try.func18, Try.ntmps18
      go_wp2_with (first | refine wpList_eqR (by rfl) _ _ rfl ⟨6, tx, mask, k0, k1, k2, k3, oT, oN, nT, nN⟩ ⟨6, tx, 0, 0, 0, 0, 0, false, 0, false, 0⟩ (by rfl) (by rfl) _ h3 ?_)
      go_ret
      refine ⟨rfl, ?_⟩
      repeat first | exact Below.refl _ _ | refine Below.setCell ?_ (by first | exact Nat.le_refl _ | simp | (simp; omega)) _ | refine Below.alloc ?_ (by first | exact Nat.le_refl _ | simp | (simp; omega)) _
set_option maxRecDepth 100000 in
set_option maxHeartbeats 1000000 in
theorem refRight_7 (r : RecD) (hk : r.kind = 7) (b : Bool) (hb : rightB r = b) (w : World) : Calls Try.prog 18 #[recV r] w fun e w' => e = .returned (.bool b) ∧ Below w.heap.size w w' := by
  obtain ⟨kind, tx, mask, k0, k1, k2, k3, oT, oN, nT, nN⟩ := r
  dsimp only at hk
  subst hk
  simp [rightB] at hb
  rw [recV_eq]
  dsimp only
  cases nT
  · cases h3 : eqR ⟨7, tx, mask, k0, k1, k2, k3, oT, oN, false, nN⟩ ⟨7, 0, 0, k0, k1, k2, k3, false, 0, false, nN⟩
    · simp at hb; subst hb
      go_enter Try.func18, Try.ntmps18
      go_wp2_with (first | refine wpList_eqR (by rfl) _ _ rfl ⟨7, tx, mask, k0, k1, k2, k3, oT, oN, false, nN⟩ ⟨7, 0, 0, k0, k1, k2, k3, false, 0, false, nN⟩ (by rfl) (by rfl) _ h3 ?_)
      go_ret
      refine ⟨rfl, ?_⟩
      repeat first | exact Below.refl _ _ | refine Below.setCell ?_ (by first | exact Nat.le_refl _ | simp | (simp; omega)) _ | refine Below.alloc ?_ (by first | exact Nat.le_refl _ | simp | (simp; omega)) _
    · simp at hb; subst hb
      go_enter Try.func18, Try.ntmps18
      go_wp2_with (first | refine wpList_eqR (by rfl) _ _ rfl ⟨7, tx, mask, k0, k1, k2, k3, oT, oN, false, nN⟩ ⟨7, 0, 0, k0, k1, k2, k3, false, 0, false, nN⟩ (by rfl) (by rfl) _ h3 ?_)
      go_ret
      refine ⟨rfl, ?_⟩
      repeat first | exact Below.refl _ _ | refine Below.setCell ?_ (by first | exact Nat.le_refl _ | simp | (simp; omega)) _ | refine Below.alloc ?_ (by first | exact Nat.le_refl _ | simp | (simp; omega)) _
  · cases h3 : eqR ⟨7, tx, mask, k0, k1, k2, k3, oT, oN, true, nN⟩ ⟨7, 0, 0, k0, k1, k2, k3, false, 0, true, nN⟩
    · simp [h3] at hb; subst hb
      go_enter Try.func18, Try.ntmps18
      go_wp2_with (first | refine wpList_eqR (by rfl) _ _ rfl ⟨7, tx, mask, k0, k1, k2, k3, oT, oN, true, nN⟩ ⟨7, 0, 0, k0, k1, k2, k3, false, 0, true, nN⟩ (by rfl) (by rfl) _ h3 ?_)
      go_ret
      refine ⟨rfl, ?_⟩
      repeat first | exact Below.refl _ _ | refine Below.setCell ?_ (by first | exact Nat.le_refl _ | simp | (simp; omega)) _ | refine Below.alloc ?_ (by first | exact Nat.le_refl _ | simp | (simp; omega)) _
    · simp [h3] at hb; subst hb
      go_enter Try.func18, Try.ntmps18
      go_wp2_with (first | refine wpList_eqR (by rfl) _ _ rfl ⟨7, tx, mask, k0, k1, k2, k3, oT, oN, true, nN⟩ ⟨7, 0, 0, k0, k1, k2, k3, false, 0, true, nN⟩ (by rfl) (by rfl) _ h3 ?_)
      go_ret
      refine ⟨rfl, ?_⟩
      repeat first | exact Below.refl _ _ | refine Below.setCell ?_ (by first | exact Nat.le_refl _ | simp | (simp; omega)) _ | refine Below.alloc ?_ (by first | exact Nat.le_refl _ | simp | (simp; omega)) _
set_option maxRecDepth 100000 in
set_option maxHeartbeats 1000000 in
theorem refRight_8 (r : RecD) (hk : r.kind = 8) (b : Bool) (hb : rightB r = b) (w : World) : Calls Try.prog 18 #[recV r] w fun e w' => e = .returned (.bool b) ∧ Below w.heap.size w w' := by
  obtain ⟨kind, tx, mask, k0, k1, k2, k3, oT, oN, nT, nN⟩ := r
  dsimp only at hk
  subst hk
  simp [rightB] at hb
  rw [recV_eq]
  dsimp only
  cases h3 : eqR ⟨8, tx, mask, k0, k1, k2, k3, oT, oN, nT, nN⟩ ⟨8, 0, mask, 0, 0, 0, 0, false, 0, false, 0⟩ <;> rw [h3] at hb
  · simp at hb; subst hb
    go_enter Try.func18, Try.ntmps18
    go_wp2_with (first | refine wpList_eqR (by rfl) _ _ rfl ⟨8, tx, mask, k0, k1, k2, k3, oT, oN, nT, nN⟩ ⟨8, 0, mask, 0, 0, 0, 0, false, 0, false, 0⟩ (by rfl) (by rfl) _ h3 ?_)
    go_ret
    refine ⟨rfl, ?_⟩
    repeat first | exact Below.refl _ _ | refine Below.setCell ?_ (by first | exact Nat.le_refl _ | simp | (simp; omega)) _ | refine Below.alloc ?_ (by first | exact Nat.le_refl _ | simp | (simp; omega)) _
  · cases h2 : decide ((mask : Int) ≤ 64) <;> rw [h2] at hb <;> simp at hb <;> subst hb
    all_goals
      go_enter Try.func18, Try.ntmps18
      go_wp2_with (first | refine wpList_eqR (by rfl) _ _ rfl ⟨8, tx, mask, k0, k1, k2, k3, oT, oN, nT, nN⟩ ⟨8, 0, mask, 0, 0, 0, 0, false, 0, false, 0⟩ (by rfl) (by rfl) _ h3 ?_)
      go_ret
      refine ⟨rfl, ?_⟩
      repeat first | exact Below.refl _ _ | refine Below.setCell ?_ (by first | exact Nat.le_refl _ | simp | (simp; omega)) _ | refine Below.alloc ?_ (by first | exact Nat.le_refl _ | simp | (simp; omega)) _
set_option maxRecDepth 100000 in
set_option maxHeartbeats 1000000 in
theorem refRight_1 (r : RecD) (hk : r.kind = 1) (b : Bool) (hb : rightB r = b) (w : World) : Calls Try.prog 18 #[recV r] w fun e w' => e = .returned (.bool b) ∧ Below w.heap.size w w' := by
  obtain ⟨kind, tx, mask, k0, k1, k2, k3, oT, oN, nT, nN⟩ := r
  dsimp only at hk
  subst hk
  simp [rightB] at hb
  rw [recV_eq]
  dsimp only
  by_cases h1 : 1 ≤ tx
  · by_cases h2 : tx ≤ 1048576
    · simp [okTx, h1, h2] at hb
      cases h4 : ((mask : Int) == 0) <;> rw [h4] at hb
      · simp at hb; subst hb
        go_enter Try.func18, Try.ntmps18
        go_wp2_with (first | (go_at_call 37; with_reducible refine (refValue_any oT oN _ h3 _).mono ?_; rintro e w1 ⟨rfl, kb⟩; obtain ⟨kc, kf⟩ := bcell kb))
        go_ret
        refine ⟨rfl, ?_⟩
        repeat first | exact Below.refl _ _ | refine Below.setCell ?_ (by first | exact Nat.le_refl _ | simp | (simp; omega)) _ | refine Below.alloc ?_ (by first | exact Nat.le_refl _ | simp | (simp; omega)) _
      · cases h3 : okVal oT oN <;> rw [h3] at hb
        · simp at hb; subst hb
          go_enter Try.func18, Try.ntmps18
          go_wp2_with (first | (go_at_call 37; with_reducible refine (refValue_any oT oN _ h3 _).mono ?_; rintro e w1 ⟨rfl, kb⟩; obtain ⟨kc, kf⟩ := bcell kb))
          go_ret
          exact ⟨rfl, (((Below.refl _ _).alloc (Nat.le_refl _) _).alloc (by simp) _).trans (kb.mono (by simp; omega))⟩
        · cases h5 : okVal nT nN <;> rw [h5] at hb <;> simp at hb <;> subst hb
          all_goals
            go_enter Try.func18, Try.ntmps18
            go_wp2_with (first | (go_at_call 37; with_reducible refine (refValue_any oT oN _ h3 _).mono ?_; rintro e w1 ⟨rfl, kb⟩; obtain ⟨kc, kf⟩ := bcell kb) | (go_at_call 37; with_reducible refine (refValue_any nT nN _ h5 _).mono ?_; rintro e w2 ⟨rfl, kb2⟩))
            go_ret
            exact ⟨rfl, ((((Below.refl _ _).alloc (Nat.le_refl _) _).alloc (by simp) _).trans (kb.mono (by simp; omega))).trans (kb2.mono (by have := kb.size; simp at this; omega))⟩
    · simp [okTx, h2] at hb; subst hb
      go_enter Try.func18, Try.ntmps18
      go_wp2
      go_ret
      refine ⟨rfl, ?_⟩
      repeat first | exact Below.refl _ _ | refine Below.setCell ?_ (by first | exact Nat.le_refl _ | simp | (simp; omega)) _ | refine Below.alloc ?_ (by first | exact Nat.le_refl _ | simp | (simp; omega)) _
  · simp [okTx, h1] at hb; subst hb
    go_enter Try.func18, Try.ntmps18
    go_wp2
    go_ret
    refine ⟨rfl, ?_⟩
    repeat first | exact Below.refl _ _ | refine Below.setCell ?_ (by first | exact Nat.le_refl _ | simp | (simp; omega)) _ | refine Below.alloc ?_ (by first | exact Nat.le_refl _ | simp | (simp; omega)) _
set_option maxRecDepth 100000 in
set_option maxHeartbeats 1000000 in
theorem refRight_none (r : RecD) (h1 : (r.kind == 1) = false) (h2 : (r.kind == 2) = false) (h3 : (r.kind == 3) = false) (h4 : (r.kind == 4) = false) (h5 : (r.kind == 5) = false) (h6 : (r.kind == 6) = false) (h7 : (r.kind == 7) = false) (h8 : (r.kind == 8) = false) (w : World) : Calls Try.prog 18 #[recV r] w fun e w' => e = .returned (.bool false) ∧ Below w.heap.size w w' := by
  obtain ⟨kind, tx, mask, k0, k1, k2, k3, oT, oN, nT, nN⟩ := r
  dsimp only at *
  rw [recV_eq]
  dsimp only
  go_enter Try.func18, Try.ntmps18
  go_wp2
  go_ret
  refine ⟨rfl, ?_⟩
  repeat first | exact Below.refl _ _ | refine Below.setCell ?_ (by first | exact Nat.le_refl _ | simp | (simp; omega)) _ | refine Below.alloc ?_ (by first | exact Nat.le_refl _ | simp | (simp; omega)) _
theorem refRight_any (r : RecD) (b : Bool) (hb : rightB r = b) (w : World) : Calls Try.prog 18 #[recV r] w fun e w' => e = .returned (.bool b) ∧ Below w.heap.size w w' := by
  by_cases c1 : r.kind = 1
  · exact refRight_1 r c1 b hb w
  by_cases c2 : r.kind = 2
  · exact refRight_2 r c2 b hb w
  by_cases c3 : r.kind = 3
  · exact refRight_3 r c3 b hb w
  by_cases c4 : r.kind = 4
  · exact refRight_4 r c4 b hb w
  by_cases c5 : r.kind = 5
  · exact refRight_5 r c5 b hb w
  by_cases c6 : r.kind = 6
  · exact refRight_6 r c6 b hb w
  by_cases c7 : r.kind = 7
  · exact refRight_7 r c7 b hb w
  by_cases c8 : r.kind = 8
  · exact refRight_8 r c8 b hb w
  have e : rightB r = false := by simp [rightB, c1, c2, c3, c4, c5, c6, c7, c8]
  rw [e] at hb
  subst hb
  exact refRight_none r (by simpa using c1) (by simpa using c2) (by simpa using c3) (by simpa using c4) (by simpa using c5) (by simpa using c6) (by simpa using c7) (by simpa using c8) w
end Go.Proofs.Ytdmkkfpbgpijjaa
namespace Go.Proofs.Ytdmkkfpbgpijjaa
open Go.RowKit Go.Deep
set_option linter.unusedVariables false

theorem LHas.loose {LI : World → (Nat → Prop) → Nat → Nat → LogD → Prop} {B : Nat} {w0 : World} {X : Nat → Prop} {w : World} {lb db N : Nat} {st : St} {lg : LogD} (h : LHas LI B w0 X w lb db N st lg) (q : Nat) (hq : st.cache.length = q) : Calls Try.prog 19 #[.pointer (some ⟨db, 0, none⟩)] w fun e w' => e = .returned (.int .i64 (q : Int)) ∧ w = w' := by
  obtain ⟨FL, FD, hs, _, _⟩ := h.ex
  exact loose_at FD db N q st w hs.disk hq
theorem all_snoc5 (rs : List RecD) (k : Nat) (h : k < rs.length) : (rs.take (k + 1)).all rightB = ((rs.take k).all rightB && rightB rs[k]) := by
  rw [List.take_succ_eq_append_getElem h, List.all_append]; simp
set_option maxRecDepth 100000 in
set_option maxHeartbeats 2000000 in
theorem right_out {LI : World → (Nat → Prop) → Nat → Nat → LogD → Prop} (S : WalOK LI) (n : Int) (b1 : isI64 n) (A : Option Addr) (l c : Nat) (m : l ≤ 9223372036854775807) (spare : Int) (h : n < 1 ∨ 200 < n ∨ 60 < l) (w : World) :
    Calls Try.prog 7 #[.int .i64 n, .slice A l c, .int .i64 spare] w fun e w' => e = .returned (.bool true) ∧ Below w.heap.size w w' := by
  have c0 : ∀ W, Calls Try.prog 8 #[] W fun e w' => e = .returned (.bool true) ∧ Below W.heap.size W w' := fun W => alive5 S W
  clear S
  obtain ⟨b1, b2⟩ := b1
  by_cases h1 : n < 1
  · have d1 : decide (n < 1) = true := by simp; omega
    go_enter Try.func7, Try.ntmps7
    go_wp2_with fail
    (with_reducible refine (c0 _).mono ?_)
    rintro e w1 ⟨rfl, k1⟩
    go_wp2
    go_ret
    exact ⟨rfl, k1⟩
  · have d1 : decide (n < 1) = false := by simp; omega
    by_cases h2 : 200 < n
    · have d2 : decide (200 < n) = true := by simp; omega
      go_enter Try.func7, Try.ntmps7
      go_wp2_with fail
      (with_reducible refine (c0 _).mono ?_)
      rintro e w1 ⟨rfl, k1⟩
      go_wp2
      go_ret
      exact ⟨rfl, k1⟩
    · have d2 : decide (200 < n) = false := by simp; omega
      have d3 : decide ((60 : Int) < (l : Int)) = true := by simp; omega
      go_enter Try.func7, Try.ntmps7
      go_wp2_with fail
      (with_reducible refine (c0 _).mono ?_)
      rintro e w1 ⟨rfl, k1⟩
      go_wp2
      go_ret
      exact ⟨rfl, k1⟩
set_option maxRecDepth 100000 in
set_option maxHeartbeats 4000000 in
theorem right_in {LI : World → (Nat → Prop) → Nat → Nat → LogD → Prop} (S : WalOK LI) (N : Nat) (h1 : 1 ≤ N) (h2 : N ≤ 200) (A : Option Addr) (l c : Nat) (rs : List RecD) (hl : rs.length = l) (h60 : l ≤ 60) (ok : ∀ r ∈ rs, okR r) (spare : Int) (hsp : isI64 spare) (w : World) (g : GoodR A c rs w) :
    Calls Try.prog 7 #[.int .i64 (N : Int), .slice A l c, .int .i64 spare] w fun e w' => e = .returned (.bool true) ∧ Below w.heap.size w w' := by
  have c0 : ∀ W, Calls Try.prog 8 #[] W fun e w' => e = .returned (.bool true) ∧ Below W.heap.size W w' := fun W => alive5 S W
  have d1 : decide ((N : Int) < 1) = false := by simp; omega
  have d2 : decide ((200 : Int) < (N : Int)) = false := by simp; omega
  have d3 : decide ((60 : Int) < (l : Int)) = false := by simp; omega
  have F1 := fun W => begin5 S N h1 (by omega) W
  have HK := Lib.hid S
  have HL := Lib.hid hl
  clear S
  go_enter Try.func7, Try.ntmps7
  go_wp2_with fail
  (with_reducible refine (c0 _).mono ?_)
  rintro e w0 ⟨rfl, k0⟩
  clear c0
  go_wp2_with fail
  refine (F1 _).mono ?_
  rintro e w1 ⟨db, lb, FL, FD, rfl, hs, hfl, hfd, k1⟩
  clear F1
  have h0 : LHas LI w.heap.size w (fun _ => False) w1 lb db N (newS N) g0 := ⟨⟨FL, FD, hs, fun k hk => ⟨Nat.le_trans k0.size (hfl k hk), fun e => e⟩, fun k hk => ⟨Nat.le_trans k0.size (hfd k hk), fun e => e⟩⟩, below_more k0 k1 (Nat.le_refl _), Nat.le_trans k0.size k1.size⟩
  clear hs hfl hfd k1 k0
  go_wp2
  go_loopw [9, 10] (fun v i wr => ∃ k : Nat, k ≤ l ∧ i = .int .i64 k ∧ v = .bool ((rs.take k).all rightB) ∧ LHas LI w.heap.size w (fun _ => False) wr lb db N (newS N) g0) (fun _ i _ => l - (intOf i).toNat)
  case atStart => exact ⟨0, Nat.zero_le _, rfl, rfl, h0⟩
  case round =>
    obtain ⟨k, hk, rfl, rfl, hh⟩ := hrel
    clear h0
    by_cases hlt : k < l
    · have hkl : k < rs.length := by omega
      have ha := Lib.hid (all_snoc5 rs k hkl)
      obtain ⟨b, off, rfl, hbl, hro⟩ := (g.below hh.below).cells k hkl
      generalize rs[k] = r at *
      have E1 : ∀ W, Calls Try.prog 18 #[.agg #[.int .i64 r.kind, .int .i64 r.tx, .int .u16 r.mask, .int .u8 r.k0, .int .u8 r.k1, .int .u8 r.k2, .int .u8 r.k3, .bool r.oT, .int .i64 r.oN, .bool r.nT, .int .i64 r.nN]] W fun e w' => e = .returned (.bool (rightB r)) ∧ Below W.heap.size W w' := fun W => refRight_any r _ rfl W
      generalize rightB r = ro at *
      cases hal : (rs.take k).all rightB with
      | false =>
        rw [hal] at ha
        go_wp2
        go_roundw
        case rel => exact ⟨k + 1, by omega, by go_num, by rw [ha.out]; rfl, hh⟩
        case measure => simp [intOf]; omega
      | true =>
        rw [hal] at ha
        have q0 : wr.cell? ⟨b, off + k * 11, none⟩ = some (.int .i64 r.kind) := hro 0 _ rfl
        have q1 : wr.cell? ⟨b, off + k * 11 + 1, none⟩ = some (.int .i64 r.tx) := hro 1 _ rfl
        have q2 : wr.cell? ⟨b, off + k * 11 + 2, none⟩ = some (.int .u16 r.mask) := hro 2 _ rfl
        have q3 : wr.cell? ⟨b, off + k * 11 + 3, none⟩ = some (.int .u8 r.k0) := hro 3 _ rfl
        have q4 : wr.cell? ⟨b, off + k * 11 + 4, none⟩ = some (.int .u8 r.k1) := hro 4 _ rfl
        have q5 : wr.cell? ⟨b, off + k * 11 + 5, none⟩ = some (.int .u8 r.k2) := hro 5 _ rfl
        have q6 : wr.cell? ⟨b, off + k * 11 + 6, none⟩ = some (.int .u8 r.k3) := hro 6 _ rfl
        have q7 : wr.cell? ⟨b, off + k * 11 + 7, none⟩ = some (.bool r.oT) := hro 7 _ rfl
        have q8 : wr.cell? ⟨b, off + k * 11 + 8, none⟩ = some (.int .i64 r.oN) := hro 8 _ rfl
        have q9 : wr.cell? ⟨b, off + k * 11 + 9, none⟩ = some (.bool r.nT) := hro 9 _ rfl
        have q10 : wr.cell? ⟨b, off + k * 11 + 10, none⟩ = some (.int .i64 r.nN) := hro 10 _ rfl
        go_wp2_with fail
        (with_reducible refine (E1 _).mono ?_)
        rintro e w2 ⟨rfl, k2⟩
        go_wp2
        go_roundw
        case rel => exact ⟨k + 1, by omega, by go_num, by rw [ha.out]; simp, hh.keep HK.out k2⟩
        case measure => simp [intOf]; omega
    · obtain rfl : k = l := by omega
      have e1 : rs.take k = rs := by rw [← HL.out, List.take_length]
      rw [e1]
      have gr := g.below hh.below
      obtain ⟨q, hq⟩ : ∃ q, fitsE N g0 rs 0 spare = q := ⟨_, rfl⟩
      by_cases q0 : q = 0
      · subst q0
        obtain ⟨f1, f2, f3, f4⟩ := fits_ok hq
        rw [f1]
        have hn : nOf rs ≤ N := by
          have : g0.next = 1 := rfl
          have : g0.sure = 1 := rfl
          omega
        have F2 := hh.does (fun k h => h.elim) (fun FL FD hs => HK.out.app_yes FL FD lb db N (newS N) g0 A k c rs spare _ hs HL.out (by omega) ok gr hsp (by show 0 + nOf rs ≤ 999; omega) hq)
        have ec : (appS N g0 (newS N) rs).cache.length = nOf rs := by
          show ([] ++ puts N (laySecs g0.next g0.first (joinL rs))).length = _
          rw [List.nil_append, puts_length, laySecs_length]; rfl
        have ef : (N : Int) - (appL g0 rs).next + (appL g0 rs).sure = (N : Int) - nOf rs := by
          show (N : Int) - ((1 + nOf rs : Nat) : Int) + ((1 : Nat) : Int) = _
          omega
        have hsl : spare ≤ (N : Int) - nOf rs := by
          have : g0.next = 1 := rfl
          have : g0.sure = 1 := rfl
          omega
        have F5 := fun W (h : GoodR A c rs W) => HK.out.sectors A k c rs W HL.out (by omega) ok h
        rw [f1] at F5
        generalize nOf rs = n at *
        have i0 : (0 : Int) ≤ (N : Int) - (n : Int) := by omega
        have d5 : decide (spare ≤ (N : Int) - (n : Int)) = true := by simp; omega
        obtain ⟨d, hd⟩ : ∃ d : Int, (N : Int) - (n : Int) = d := ⟨_, rfl⟩
        clear hq f1 f3 f4 e1 hh
        rw [hd] at d5 ef
        go_wp2_with fail
        (with_reducible refine F2.mono ?_)
        rintro e w2 ⟨rfl, h5, _⟩
        have gr2 := g.below h5.below
        clear F2 gr
        go_wp2_with fail
        (with_reducible refine (h5.loose n ec).mono ?_)
        rintro e w3 ⟨rfl, rfl⟩
        go_wp2_with fail
        refine (F5 _ gr2).mono ?_
        rintro e w4 ⟨rfl, k4⟩
        have h6 := h5.keep HK.out k4
        clear h5 F5 gr2
        go_wp2_with fail
        (with_reducible refine (h6.free HK.out d ef).mono ?_)
        rintro e w5 ⟨rfl, k5⟩
        have h7 := h6.keep HK.out k5
        clear h6
        go_wp2_with fail
        (with_reducible refine (h7.loose n ec).mono ?_)
        rintro e w6 ⟨rfl, rfl⟩
        go_wp2_with fail
        (with_reducible refine (h7.free HK.out d ef).mono ?_)
        rintro e w7 ⟨rfl, k7⟩
        have hb := Lib.hid (h7.below.trans (k7.mono h7.size))
        clear h7 k4 k5 k7 ec ef
        go_wp2
        go_ret
        exact ⟨rfl, hb.out⟩
      · have F2 := hh.does (fun k h => h.elim) (fun FL FD hs => HK.out.app_no FL FD lb db N (newS N) g0 A k c rs spare q _ hs HL.out (by omega) ok gr hsp hq q0)
        have hcase : (rs.all rightB = false ∧ (q == 10) = true) ∨ (rs.all rightB = true ∧ (q == 10) = false) := by
          unfold fitsE at hq
          cases hr : rs.all rightB with
          | false => left; rw [hr, if_pos rfl] at hq; subst hq; exact ⟨rfl, rfl⟩
          | true =>
            right
            rw [hr] at hq
            refine ⟨rfl, ?_⟩
            rw [if_neg (by simp)] at hq
            split at hq
            · subst hq; rfl
            · split at hq
              · subst hq; rfl
              · exact absurd hq.symm q0
        have hqi : isI64 q := by
          unfold fitsE at hq
          split at hq
          · subst hq; exact ⟨by omega, by omega⟩
          · split at hq
            · subst hq; exact ⟨by omega, by omega⟩
            · split at hq
              · subst hq; exact ⟨by omega, by omega⟩
              · exact absurd hq.symm q0
        have hqn : (q != 0) = true := by simpa using q0
        have ef : (N : Int) - g0.next + g0.sure = (N : Int) := by
          show (N : Int) - ((1 : Nat) : Int) + ((1 : Nat) : Int) = _
          omega
        have en : ((g0.next : Nat) : Int) = 1 := rfl
        have ec : (newS N).cache.length = 0 := rfl
        clear hq e1 hh gr q0
        rcases hcase with ⟨hr, hq10⟩ | ⟨hr, hq10⟩
        all_goals
          rw [hr]
          clear hr
          go_wp2_with fail
          (with_reducible refine F2.mono ?_)
          rintro e w2 ⟨rfl, h5, _⟩
          clear F2
          go_wp2_with fail
          (with_reducible refine (h5.loose 0 ec).mono ?_)
          rintro e w3 ⟨rfl, rfl⟩
          go_wp2_with fail
          (with_reducible refine (h5.next HK.out 1 en).mono ?_)
          rintro e w4 ⟨rfl, k4⟩
          have h6 := h5.keep HK.out k4
          clear h5
          go_wp2_with fail
          (with_reducible refine (h6.free HK.out N ef).mono ?_)
          rintro e w5 ⟨rfl, k5⟩
          have hb := Lib.hid (h6.below.trans (k5.mono h6.size))
          clear h6 k4 k5
          go_wp2
          go_ret
          exact ⟨rfl, hb.out⟩
/-- WalRight returns true, for every input. -/
theorem walRight_any {LI : World → (Nat → Prop) → Nat → Nat → LogD → Prop} (S : WalOK LI) (n : Int) (b1 : isI64 n) (A : Option Addr) (l c : Nat) (rs : List RecD) (hl : rs.length = l) (m : l ≤ 9223372036854775807) (ok : ∀ r ∈ rs, okR r) (spare : Int) (hsp : isI64 spare) (w : World) (g : GoodR A c rs w) :
    Calls Try.prog 7 #[.int .i64 n, .slice A l c, .int .i64 spare] w fun e w' => e = .returned (.bool true) ∧ Below w.heap.size w w' := by
  by_cases h : n < 1 ∨ 200 < n ∨ 60 < l
  · exact right_out S n b1 A l c m spare h w
  · obtain ⟨N, rfl⟩ : ∃ N : Nat, n = (N : Int) := ⟨n.toNat, by omega⟩
    exact right_in S N (by omega) (by omega) A l c rs hl (by omega) ok spare hsp w g
end Go.Proofs.Ytdmkkfpbgpijjaa
namespace Go.Proofs.Ytdmkkfpbgpijjaa
open Go.RowKit Go.Deep
set_option linter.unusedVariables false

/-- Behind k rounds: nothing was written, or the ring stands. -/
def RInv (N : Nat) (rs : List RecD) (k : Nat) (lg : LogD) (st : St) : Prop :=
  st.cache = [] ∧ ((st = newS N ∧ lg = g0 ∧ (k = 0 ∨ N < nOf rs + 1)) ∨ (Ring N rs lg st.safe ∧ lg.next ≤ 1 + k * (nOf rs + 1)))
theorem rinv_start (N : Nat) (rs : List RecD) : RInv N rs 0 g0 (newS N) := ⟨rfl, .inl ⟨rfl, rfl, .inl rfl⟩⟩
theorem forL_ring {N : Nat} {rs : List RecD} {lg : LogD} {S : List (List Int)} (h : Ring N rs lg S) : forL lg = lg := by
  have := h.sure
  cases lg
  simp only [forL] at *
  rw [this]
theorem flush_nil {st : St} (h : st.cache = []) : flushS st = st := by
  cases st
  simp only [flushS, nows] at *
  subst h
  rfl
theorem ring_yes {N : Nat} {rs : List RecD} {k : Nat} {lg : LogD} {st : St} (h : RInv N rs k lg st) (hk : k ≤ 60) (hn : nOf rs ≤ 100) (ok : ∀ r ∈ rs, okR r) (hf : fitsE N lg rs 1 0 = 0) :
    RInv N rs (k + 1) (forL (chkL lg rs)) (flushS (chkS N lg st rs)) ∧ (N : Int) - (forL (chkL lg rs)).next + (forL (chkL lg rs)).sure = (N : Int) - nOf rs - 1 := by
  obtain ⟨f1, f2, f3, f4⟩ := fits_ok hf
  have hr := rightL_of f1 ok
  refine ⟨⟨rfl, .inr ?_⟩, ?_⟩
  · obtain ⟨hc, h⟩ := h
    have hst : st = ⟨st.safe, []⟩ := by cases st; simp only at hc; rw [hc]
    have e : (flushS (chkS N lg st rs)).safe = nows (flushS (chkS N lg ⟨st.safe, []⟩ rs)) := by rw [← hst]; rfl
    rw [e]
    have hmul : k * (nOf rs + 1) ≤ 60 * 101 := Nat.mul_le_mul hk (by omega)
    rcases h with ⟨h1, h2, h3⟩ | ⟨h1, h2⟩
    · subst h2
      have e1 : g0.next = 1 := rfl
      have e2 : g0.sure = 1 := rfl
      have e3 : g0.first = 1 := rfl
      refine ⟨Ring.begin (b := 0) (by rw [h1]; simp [newS]) (by omega) hr (by omega) (by omega) (by omega) (fun i hi => ?_) (by omega), ?_⟩
      · have e4 : st.safe = zeroD N := by rw [h1]; rfl
        rw [e4, counts_zero (secAt_zeroD N i hi)]
        exact Nat.le_refl _
      · show g0.next + nOf rs + 1 ≤ _
        rw [Nat.add_mul]; omega
    · have e1 := h1.next
      have e2 := h1.sure
      have e3 := h1.one
      refine ⟨Ring.begin (b := lg.first + nOf rs) h1.len (by omega) hr h1.fit (by omega) (by omega) h1.counts (by omega), ?_⟩
      show lg.next + nOf rs + 1 ≤ _
      rw [Nat.add_mul]; omega
  · show (N : Int) - ((lg.next + nOf rs + 1 : Nat) : Int) + ((lg.next : Nat) : Int) = _
    omega
theorem ring_no {N : Nat} {rs : List RecD} {k : Nat} {lg : LogD} {st : St} (h : RInv N rs k lg st) (hk : k ≤ 60) (hn : nOf rs ≤ 100) (hr : rs.all rightB = true) (hf : fitsE N lg rs 1 0 ≠ 0) :
    RInv N rs (k + 1) (forL lg) (flushS st) ∧ N < 2 * (nOf rs + 1) := by
  have hmul : k * (nOf rs + 1) ≤ 60 * 101 := Nat.mul_le_mul hk (by omega)
  have hb : (N : Int) - lg.next + lg.sure - nOf rs - 1 < 0 ∨ 4294967296 < lg.next + nOf rs + 1 := by
    unfold fitsE at hf
    rw [hr, if_neg (by simp), if_neg (by omega)] at hf
    by_cases h3 : (N : Int) - lg.next + lg.sure - nOf rs - (1 : Nat) < 0 ∨ 4294967296 < lg.next + nOf rs + 1
    · omega
    · rw [if_neg h3] at hf; omega
  obtain ⟨hc, h⟩ := h
  rw [flush_nil hc]
  rcases h with ⟨h1, h2, h3⟩ | ⟨h1, h2⟩
  · subst h2
    have e1 : g0.next = 1 := rfl
    have e2 : g0.sure = 1 := rfl
    have h4 : N < nOf rs + 1 := by omega
    exact ⟨⟨hc, .inl ⟨h1, rfl, .inr h4⟩⟩, by omega⟩
  · have e1 := h1.next
    have e2 := h1.sure
    rw [forL_ring h1]
    refine ⟨⟨hc, .inr ⟨h1, by rw [Nat.add_mul]; omega⟩⟩, by omega⟩
theorem ring_end {N : Nat} {rs : List RecD} {k : Nat} {lg : LogD} {st : St} (h : RInv N rs k lg st) (hr : RightL rs) : ∃ xs, tells (nows st) = some (lg, xs) ∧ (1 ≤ k → 2 * (nOf rs + 1) ≤ N → xs = rs) := by
  obtain ⟨hc, h⟩ := h
  rcases h with ⟨h1, h2, h3⟩ | ⟨h1, h2⟩
  · subst h1 h2
    exact ⟨[], tells_new N, fun a b => by omega⟩
  · have e : nows st = st.safe := by unfold nows; rw [hc]; rfl
    rw [e]
    exact ⟨rs, h1.tells hr, fun _ _ => rfl⟩
set_option maxRecDepth 100000 in
set_option maxHeartbeats 2000000 in
theorem ring_out {LI : World → (Nat → Prop) → Nat → Nat → LogD → Prop} (S : WalOK LI) (n ro : Int) (A : Option Addr) (l c : Nat) (m : l ≤ 9223372036854775807) (h : n < 1 ∨ 60 < n ∨ ro < 0 ∨ 60 < ro ∨ 10 < l) (w : World) :
    Calls Try.prog 6 #[.int .i64 n, .int .i64 ro, .slice A l c] w fun e w' => e = .returned (.bool true) ∧ Below w.heap.size w w' := by
  have c0 : ∀ W, Calls Try.prog 8 #[] W fun e w' => e = .returned (.bool true) ∧ Below W.heap.size W w' := fun W => alive5 S W
  clear S
  have key : ∀ a b d e f : Bool, decide (n < 1) = a → decide (60 < n) = b → decide (ro < 0) = d → decide (60 < ro) = e → decide ((10 : Int) < (l : Int)) = f → (a || b || d || e || f) = true →
      Calls Try.prog 6 #[.int .i64 n, .int .i64 ro, .slice A l c] w fun e w' => e = .returned (.bool true) ∧ Below w.heap.size w w' := by
    intro a b d e f ha hb hd he hf hor
    cases a <;> cases b <;> cases d <;> cases e <;> cases f <;> first | (exfalso; revert hor; decide) | skip
    all_goals
      clear hor h
      go_enter Try.func6, Try.ntmps6
      go_wp2_with fail
      (with_reducible refine (c0 _).mono ?_)
      rintro e w1 ⟨rfl, k1⟩
      go_wp2
      go_ret
      exact ⟨rfl, k1⟩
  refine key _ _ _ _ _ rfl rfl rfl rfl rfl ?_
  simp only [Bool.or_eq_true, decide_eq_true_eq]
  omega
set_option maxRecDepth 100000 in
set_option maxHeartbeats 4000000 in
theorem ring_in {LI : World → (Nat → Prop) → Nat → Nat → LogD → Prop} (S : WalOK LI) (N ro : Nat) (h1 : 1 ≤ N) (h2 : N ≤ 60) (hro : ro ≤ 60) (A : Option Addr) (l c : Nat) (rs : List RecD) (hl : rs.length = l) (h10 : l ≤ 10) (ok : ∀ r ∈ rs, okR r) (w : World) (g : GoodR A c rs w) :
    Calls Try.prog 6 #[.int .i64 (N : Int), .int .i64 (ro : Int), .slice A l c] w fun e w' => e = .returned (.bool true) ∧ Below w.heap.size w w' := by
  have c0 : ∀ W, Calls Try.prog 8 #[] W fun e w' => e = .returned (.bool true) ∧ Below W.heap.size W w' := fun W => alive5 S W
  have d1 : decide ((N : Int) < 1) = false := by simp; omega
  have d2 : decide ((60 : Int) < (N : Int)) = false := by simp; omega
  have d3 : decide ((60 : Int) < (ro : Int)) = false := by simp; omega
  have d4 : decide ((10 : Int) < (l : Int)) = false := by simp; omega
  have F1 := fun W => begin5 S N h1 (by omega) W
  have F2 := fun W (h : GoodR A c rs W) => S.sectors A l c rs W hl (by omega) ok h
  have hn15 : nOf rs ≤ 100 := by
    have := joinL_le rs
    unfold nOf secsN
    omega
  have HK := Lib.hid S
  have HL := Lib.hid hl
  clear S
  cases hr : rs.all rightB with
  | false =>
    rw [hr] at F2
    have hq : fitsE N g0 rs 0 0 = 10 := by unfold fitsE; rw [if_pos hr]
    clear hr
    go_enter Try.func6, Try.ntmps6
    go_wp2_with fail
    (with_reducible refine (c0 _).mono ?_)
    rintro e w0 ⟨rfl, k0⟩
    clear c0
    go_wp2_with fail
    refine (F1 _).mono ?_
    rintro e w1 ⟨db, lb, FL, FD, rfl, hs, hfl, hfd, k1⟩
    clear F1
    have h0 : LHas LI w.heap.size w (fun _ => False) w1 lb db N (newS N) g0 := ⟨⟨FL, FD, hs, fun k hk => ⟨Nat.le_trans k0.size (hfl k hk), fun e => e⟩, fun k hk => ⟨Nat.le_trans k0.size (hfd k hk), fun e => e⟩⟩, below_more k0 k1 (Nat.le_refl _), Nat.le_trans k0.size k1.size⟩
    clear hs hfl hfd k1 k0
    have g1 := g.below h0.below
    go_wp2_with fail
    refine (F2 _ g1).mono ?_
    rintro e w2 ⟨rfl, k2⟩
    have h2' := h0.keep HK.out k2
    have g2' := g1.below k2
    clear h0 k2 g1 F2
    have F3 := h2'.does (fun k h => h.elim) (fun FL FD hs => HK.out.app_no FL FD lb db N (newS N) g0 A l c rs 0 10 _ hs HL.out (by omega) ok g2' i64_0 hq (by omega))
    clear hq
    go_wp2_with fail
    (with_reducible refine F3.mono ?_)
    rintro e w3 ⟨rfl, h3, _⟩
    have hb := Lib.hid h3.below
    clear h3 F3 h2'
    go_wp2
    go_ret
    exact ⟨rfl, hb.out⟩
  | true =>
    have HR := Lib.hid (rightL_of hr ok)
    rw [hr] at F2
    have HRR := Lib.hid hr
    clear hr
    obtain ⟨n, hn⟩ : ∃ n, nOf rs = n := ⟨_, rfl⟩
    rw [hn] at F2 hn15
    have HN := Lib.hid hn
    clear hn
    obtain ⟨ft, hft⟩ : ∃ ft : Bool, decide (2 * ((n : Int) + 1) ≤ (N : Int)) = ft := ⟨_, rfl⟩
    have HF : Hid (ft = true ↔ 2 * (n + 1) ≤ N) := Lib.hid (by rw [← hft, decide_eq_true_eq]; omega)
    go_enter Try.func6, Try.ntmps6
    go_wp2_with fail
    (with_reducible refine (c0 _).mono ?_)
    rintro e w0 ⟨rfl, k0⟩
    clear c0
    go_wp2_with fail
    refine (F1 _).mono ?_
    rintro e w1 ⟨db, lb, FL, FD, rfl, hs, hfl, hfd, k1⟩
    clear F1
    have h0 : LHas LI w.heap.size w (fun _ => False) w1 lb db N (newS N) g0 := ⟨⟨FL, FD, hs, fun k hk => ⟨Nat.le_trans k0.size (hfl k hk), fun e => e⟩, fun k hk => ⟨Nat.le_trans k0.size (hfd k hk), fun e => e⟩⟩, below_more k0 k1 (Nat.le_refl _), Nat.le_trans k0.size k1.size⟩
    clear hs hfl hfd k1 k0
    have g1 := g.below h0.below
    go_wp2_with fail
    refine (F2 _ g1).mono ?_
    rintro e w2 ⟨rfl, k2⟩
    have h2' := h0.keep HK.out k2
    clear h0 k2 g1 F2
    go_wp2
    go_loopw [11] (fun i wr => ∃ k : Nat, k ≤ ro ∧ i = .int .i64 k ∧ ∃ lg st, RInv N rs k lg st ∧ LHas LI w.heap.size w (fun _ => False) wr lb db N st lg) (fun i _ => ro - (intOf i).toNat)
    case atStart => exact ⟨0, Nat.zero_le _, rfl, g0, newS N, rinv_start N rs, h2'⟩
    case round =>
      obtain ⟨k, hk, rfl, lg, st, hri, hh⟩ := hrel
      clear h2'
      have gr := g.below hh.below
      by_cases hlt : k < ro
      · have hc0 : st.cache.length = 0 := by rw [hri.1]; rfl
        by_cases hq : fitsE N lg rs 1 0 = 0
        · have hy := ring_yes hri (by omega) (by rw [HN.out]; omega) ok hq
          obtain ⟨hri2, hfree⟩ := hy
          have F3 := hh.does (fun k h => h.elim) (fun FL FD hs => HK.out.chk_yes FL FD lb db N st lg A l c rs 0 _ hs HL.out (by omega) ok gr i64_0 (by rw [hc0, HN.out]; omega) hq)
          have hc1 : (chkS N lg st rs).cache.length ≤ 1000 := by
            show (st.cache ++ puts N (chkSecs lg rs)).length ≤ _
            rw [List.length_append, hc0, puts_length, chk_length, HN.out]; omega
          rw [HN.out] at hfree
          obtain ⟨d, hd⟩ : ∃ d : Int, (N : Int) - (n : Int) - 1 = d := ⟨_, rfl⟩
          rw [hd] at hfree
          have HRI := Lib.hid hri2
          have HFR := Lib.hid hfree
          have HC1 := Lib.hid hc1
          clear hri hri2 hfree hc0 hc1 hq hh gr
          generalize chkS N lg st rs = st1 at *
          generalize chkL lg rs = lg1 at *
          have e0 : (d != d) = false := by simp
          cases ft with
          | true =>
            go_wp2_with fail
            (with_reducible refine F3.mono ?_)
            rintro e w3 ⟨rfl, h3, _⟩
            clear F3
            go_wp2_with fail
            (with_reducible refine (h3.does (fun k h => h.elim) (fun FL FD hs => HK.out.force FL FD lb db N st1 lg1 _ hs HC1.out)).mono ?_)
            rintro e w4 ⟨rfl, h4, _⟩
            clear h3
            go_wp2_with fail
            (with_reducible refine (h4.free HK.out d HFR.out).mono ?_)
            rintro e w5 ⟨rfl, k5⟩
            have h5 := h4.keep HK.out k5
            clear h4 k5
            go_wp2
            go_roundw
            case rel => exact ⟨k + 1, by omega, by go_num, _, _, HRI.out, h5⟩
            case measure => simp [intOf]; omega
          | false =>
            go_wp2_with fail
            (with_reducible refine F3.mono ?_)
            rintro e w3 ⟨rfl, h3, _⟩
            clear F3
            go_wp2_with fail
            (with_reducible refine (h3.does (fun k h => h.elim) (fun FL FD hs => HK.out.force FL FD lb db N st1 lg1 _ hs HC1.out)).mono ?_)
            rintro e w4 ⟨rfl, h4, _⟩
            clear h3
            go_wp2
            go_roundw
            case rel => exact ⟨k + 1, by omega, by go_num, _, _, HRI.out, h4⟩
            case measure => simp [intOf]; omega
        · obtain ⟨hri2, hN2⟩ := ring_no hri (by omega) (by rw [HN.out]; omega) HRR.out hq
          have hft0 : ft = false := by
            rw [Bool.eq_false_iff]
            intro e
            have := HF.out.1 e
            rw [HN.out] at hN2
            omega
          subst hft0
          obtain ⟨q, hqq⟩ : ∃ q, fitsE N lg rs 1 0 = q := ⟨_, rfl⟩
          rw [hqq] at hq
          have F3 := hh.does (fun k h => h.elim) (fun FL FD hs => HK.out.chk_no FL FD lb db N st lg A l c rs 0 q _ hs HL.out (by omega) ok gr i64_0 hqq hq)
          have HRI := Lib.hid hri2
          have HC := Lib.hid (show st.cache.length ≤ 1000 by omega)
          clear hri hri2 hc0 hq hqq hh gr
          go_wp2_with fail
          (with_reducible refine F3.mono ?_)
          rintro e w3 ⟨rfl, h3, _⟩
          clear F3
          go_wp2_with fail
          (with_reducible refine (h3.does (fun k h => h.elim) (fun FL FD hs => HK.out.force FL FD lb db N st lg _ hs HC.out)).mono ?_)
          rintro e w4 ⟨rfl, h4, _⟩
          clear h3
          go_wp2
          go_roundw
          case rel => exact ⟨k + 1, by omega, by go_num, _, _, HRI.out, h4⟩
          case measure => simp [intOf]; omega
      · obtain rfl : k = ro := by omega
        obtain ⟨xs, ht, hxs⟩ := ring_end hri HR.out
        have hok : LogOK N lg := by obtain ⟨FL, FD, hs, _, _⟩ := hh.ex; exact hs.ok
        have F4 := hh.disk.opens HK.out (fun k h => h.elim) ht hok
        rw [HN.out] at hxs
        have HX := Lib.hid hxs
        clear ht hok hri hh hxs
        cases hf : ft with
        | false =>
          subst hf
          go_wp2_with fail
          refine F4.mono ?_
          rintro e w3 ⟨lb2, v, rfl, o3, h3, _⟩
          have hb := Lib.hid h3.below
          clear o3 h3 F4 gr
          go_wp2
          go_ret
          exact ⟨rfl, hb.out⟩
        | true =>
          subst hf
          have hfit := HF.out.1 rfl
          by_cases hk0 : k = 0
          · subst hk0
            go_wp2_with fail
            refine F4.mono ?_
            rintro e w3 ⟨lb2, v, rfl, o3, h3, _⟩
            have hb := Lib.hid h3.below
            clear o3 h3 F4 gr
            go_wp2
            go_ret
            exact ⟨rfl, hb.out⟩
          · have exs := HX.out (by omega) hfit
            subst exs
            have dk : ((k : Int) == 0) = false := by simp; omega
            go_wp2_with fail
            refine F4.mono ?_
            rintro e w3 ⟨lb2, v, rfl, o3, h3, k3⟩
            obtain ⟨A2, c2, rfl, g2⟩ := o3.good
            have gr3 := gr.below k3
            have F5 := sameR A2 A xs l c2 c HL.out (by omega) w3 g2 gr3
            have hb := Lib.hid (fun w' (kk : Below w3.heap.size w3 w') => h3.below.trans (kk.mono h3.size))
            rw [HL.out]
            clear o3 h3 F4 gr gr3 g2 k3 HX
            go_wp2_with fail
            (with_reducible refine F5.mono ?_)
            rintro e w4 ⟨rfl, k4⟩
            have hb2 := Lib.hid (hb.out _ k4)
            clear k4 F5
            go_wp2
            go_ret
            exact ⟨rfl, hb2.out⟩
/-- WalRing returns true, for every input. -/
theorem walRing_any {LI : World → (Nat → Prop) → Nat → Nat → LogD → Prop} (S : WalOK LI) (n ro : Int) (A : Option Addr) (l c : Nat) (rs : List RecD) (hl : rs.length = l) (m : l ≤ 9223372036854775807) (ok : ∀ r ∈ rs, okR r) (w : World) (g : GoodR A c rs w) :
    Calls Try.prog 6 #[.int .i64 n, .int .i64 ro, .slice A l c] w fun e w' => e = .returned (.bool true) ∧ Below w.heap.size w w' := by
  by_cases h : n < 1 ∨ 60 < n ∨ ro < 0 ∨ 60 < ro ∨ 10 < l
  · exact ring_out S n ro A l c m h w
  · obtain ⟨N, rfl⟩ : ∃ N : Nat, n = (N : Int) := ⟨n.toNat, by omega⟩
    obtain ⟨R, rfl⟩ : ∃ R : Nat, ro = (R : Int) := ⟨ro.toNat, by omega⟩
    exact ring_in S N R (by omega) (by omega) (by omega) A l c rs hl (by omega) ok w g
end Go.Proofs.Ytdmkkfpbgpijjaa
namespace Go.Proofs.Ytdmkkfpbgpijjaa
open Go.RowKit Go.Deep
set_option linter.unusedVariables false

theorem goodR_cells {b off c : Nat} {ls : List RecD} {w : World} (g : GoodR (some ⟨b, off, none⟩) c ls w) : ∀ j u, (ls.flatMap recC)[j]? = some u → w.cell? ((⟨b, off, none⟩ : Addr).add j) = some u := by
  intro j u hu
  have hj : j < ls.length * 11 := by
    have := (List.getElem?_eq_some_iff.1 hu).1
    rwa [flat_length recC 11 ls (fun r _ => recC_len r)] at this
  obtain ⟨b', o', e, hlt, hc⟩ := g.1 (by omega)
  cases e
  have hi : j / 11 < ls.length := by omega
  have h1 := flatD_at recC 11 ls (fun r _ => recC_len r) (j / 11) ls[j / 11] (List.getElem?_eq_getElem hi) (j % 11) (by omega)
  rw [show j / 11 * 11 + j % 11 = j by omega, hu] at h1
  have h2 := hc (j / 11) ls[j / 11] (List.getElem?_eq_getElem hi) (j % 11) u h1.symm
  rw [Go.WideShapes.add_plain]
  rw [show off + j / 11 * 11 + j % 11 = off + j by omega] at h2
  exact h2
theorem recs_one (ls : List RecD) : ∀ u ∈ ls.flatMap recC, u.oneCell' = true := by
  intro u hu
  obtain ⟨r, _, h⟩ := List.mem_flatMap.1 hu
  exact recC_one r u h
set_option maxRecDepth 100000 in
theorem wpList_appendL {ops : Array Oper} {rest : List Oper} {o : Oper} {a : Act} {Q : Exit → Act → World → Prop} {W : World} (hgd : o.guard = none) (s x : Operand) (ho : o.op = .call { callee := .builtin .append, args := #[s, x], argTypes := #[28, 28] })
    (base : Nat) (v : Value) (rs : List RecD) (hs : a.eval s = v) (hown : OwnsR base W v rs) (A' : Option Addr) (ls : List RecD) (l' c' : Nat) (hx : a.eval x = .slice A' l' c') (hll : ls.length = l') (g : GoodR A' c' ls W) (hl : rs.length + ls.length ≤ 5000) (hbase : base ≤ W.heap.size)
    (h : ∀ v' w', OwnsR base w' v' (rs ++ ls) → W.grownBy w' v.ownBlock → (v ≠ .slice none 0 0 → v' ≠ .slice none 0 0) → (∀ k, v'.ownBlock = some k → v.ownBlock = some k ∨ W.heap.size ≤ k) → wpList Try.prog ops Q rest (a.put o.dst v') w') : wpList Try.prog ops Q (o :: rest) a W := by
  obtain ⟨i0, hi, hz0, hz1, hz2⟩ := info_parts info_rec
  cases A' with
  | none =>
    have hc0 := g.2.2 rfl
    subst hc0
    have hl0 : ls = [] := List.eq_nil_of_length_eq_zero (by have := g.2.1; omega)
    subst hl0
    have : l' = 0 := by simpa using hll.symm
    subst this
    refine wpList_append_own_none hgd s x 28 ho base 48 i0 11 Try.underlying28 hi v _ _ hs hown hx (h v W ?_ ⟨rfl, rfl, rfl, Nat.le_refl _, fun _ _ _ => rfl⟩ (fun h => h) (fun k hk => .inl hk))
    rw [List.append_nil]; exact hown
  | some ad =>
    have hcell : ∀ j u, (ls.flatMap recC)[j]? = some u → W.cell? (ad.add j) = some u := by
      by_cases h0 : 0 < ls.length
      · obtain ⟨b, off, e, _⟩ := g.1 h0
        injection e with e
        subst e
        exact goodR_cells g
      · have : ls = [] := List.eq_nil_of_length_eq_zero (by omega)
        subst this
        intro j u hu
        simp at hu
    refine wpList_append_own_at W hgd s x 28 ho base 48 i0 _ 11 56 Try.underlying28 hi hz0 hz1 hz2 rfl (by decide) v rs.length _ hs hown ad l' c' (ls.flatMap recC) hx (by rw [flat_length recC 11 ls (fun r _ => recC_len r), hll]) hcell (recs_one ls) (by simp only [maxLen]; omega) (by omega) hbase (fun v' w' hown' hgrow hiff hat => h v' w' ?_ hgrow (fun hn e => hn (hiff.1 e).1) (fun k hk => ?_))
    · unfold OwnsR
      rw [List.length_append, List.flatMap_append, hll]
      exact hown'
    · rcases hat with hat | hat
      · exact .inl (by rw [← hat]; exact hk)
      · right
        rw [hat] at hk
        injection hk with hk
        omega
/-- The row grows: the log and its disk stay. -/
theorem LHas.grow {LI : World → (Nat → Prop) → Nat → Nat → LogD → Prop} (S : WalOK LI) {B : Nat} {w0 : World} {X X' : Nat → Prop} {w w' : World} {lb db N : Nat} {st : St} {lg : LogD} {row : Option Nat} (h : LHas LI B w0 X w lb db N st lg) (hg : w.grownBy w' row) (hr : ∀ k, row = some k → X k ∧ B ≤ k) (hX : ∀ k, X' k → X k ∨ w.heap.size ≤ k) : LHas LI B w0 X' w' lb db N st lg := by
  obtain ⟨FL, FD, hs, h1, h2⟩ := h.ex
  have hm : Moves X w w' := moves_of_grown hg (fun k hk => (hr k hk).1)
  have hm2 : Moves (fun k => row = some k) w w' := moves_of_grown hg (fun k hk => hk)
  have hs' := hs.kept S hm (fun k hk x => (h1 k hk).2 x) (fun k hk x => (h2 k hk).2 x)
  refine ⟨⟨FL, FD, hs', fun k hk => ⟨(h1 k hk).1, fun x => ?_⟩, fun k hk => ⟨(h2 k hk).1, fun x => ?_⟩⟩, h.below.trans (hm2.below h.size (fun k hk => (hr k hk).2)), Nat.le_trans h.size hm.size⟩
  · rcases hX k x with a | a
    · exact (h1 k hk).2 a
    · have := S.lt hs.log k hk; omega
  · rcases hX k x with a | a
    · exact (h2 k hk).2 a
    · have := hs.disk.lt k hk; omega
/-- A list of lists of records in memory. -/
def GoodL (A : Option Addr) (Ls : List (List RecD)) (w : World) : Prop := 0 < Ls.length → ∃ b off, A = some ⟨b, off, none⟩ ∧ b < w.heap.size ∧ ∀ j l, Ls[j]? = some l → ∃ A' c', w.cell? ⟨b, off + j, none⟩ = some (.slice A' l.length c') ∧ GoodR A' c' l w
theorem GoodL.below {A : Option Addr} {Ls : List (List RecD)} {w w' : World} (h : GoodL A Ls w) (hb : Below w.heap.size w w') : GoodL A Ls w' := fun h0 => by
  obtain ⟨b, off, e, hlt, hc⟩ := h h0
  refine ⟨b, off, e, Nat.lt_of_lt_of_le hlt hb.size, fun j l hl => ?_⟩
  obtain ⟨A', c', h1, h2⟩ := hc j l hl
  exact ⟨A', c', (hb.cell (p := ⟨b, off + j, none⟩) hlt).trans h1, h2.below hb⟩
theorem GoodL.at_ {A : Option Addr} {Ls : List (List RecD)} {w : World} (h : GoodL A Ls w) (j : Nat) (hj : j < Ls.length) : ∃ b off A' c', A = some ⟨b, off, none⟩ ∧ b < w.heap.size ∧ w.cell? ⟨b, off + j, none⟩ = some (.slice A' Ls[j].length c') ∧ GoodR A' c' Ls[j] w := by
  obtain ⟨b, off, e, hlt, hc⟩ := h (by omega)
  obtain ⟨A', c', h1, h2⟩ := hc j Ls[j] (List.getElem?_eq_getElem hj)
  exact ⟨b, off, A', c', e, hlt, h1, h2⟩
end Go.Proofs.Ytdmkkfpbgpijjaa
namespace Go.Proofs.Ytdmkkfpbgpijjaa
open Go.ChangeShapes Go.WideShapes Go.ChangeAt Go.RowKit Go.Deep
set_option linter.unusedVariables false

set_option maxRecDepth 100000 in
/-- A list of records that stands in cells. -/
theorem recs_cells {H : Type} {enc : TypeId × Value → H} {W : World} {cs : List Value} {fuel : Nat} {y : DataW H × List MemPlace} (hf : DataW.trod enc Try.prog W 0 (fun _ => true) true fuel 28 cs = some y) :
    ∃ a len cap, ∃ rs : List RecD, cs = [.slice a len cap] ∧ rs.length = len ∧ GoodR a cap rs W ∧ (∀ r ∈ rs, okR r) ∧ len ≤ maxLen := by
  rcases open_slice Try.underlying28 hf with ⟨hcs, _⟩ | ⟨x, l, c, m, n, D, Pl, hcs, _, hl, hm, hmm, _, hi⟩
  · exact ⟨none, 0, 0, [], hcs, rfl, ⟨fun h0 => absurd h0 (by simp), by simp, fun _ => rfl⟩, (fun _ hx => by cases hx), by simp⟩
  · refine ⟨some x, l, c, ?_⟩
    rw [show Try.prog.cellsOf 48 = 11 by kernel_rfl] at hi
    have hmc : l ≤ m := by rw [hmm]; simpa using hl
    rcases Nat.eq_zero_or_pos l with h0 | h0
    · subst h0
      exact ⟨[], hcs, rfl, ⟨fun h0 => absurd h0 (by simp), by simp, fun e => by cases e⟩, (fun _ hx => by cases hx), by simp⟩
    · obtain ⟨b, off, spot⟩ := x
      obtain ⟨cs0, hc0, _⟩ := hi 0 (by omega)
      have hspot : spot = none := by
        obtain ⟨_, hl0, hat0⟩ := World.cells?_some hc0
        have := hat0 0 (by omega)
        rw [List.getElem?_eq_getElem (by omega)] at this
        simpa [Addr.add] using World.cell?_spot this
      subst hspot
      have hall : ∀ i, i < l → ∃ r : RecD, RecO W b (off + i * 11) r ∧ okR r := fun i hil => by
        obtain ⟨cs', hc', ht'⟩ := hi i (by omega)
        rw [Go.WideShapes.add_plain] at hc'
        obtain ⟨_, hl', hat'⟩ := World.cells?_some hc'
        obtain ⟨r, e, ok⟩ := one_rec hl' ht'
        refine ⟨r, fun j v hv => ?_, ok⟩
        have hj : j < 11 := by
          rcases Nat.lt_or_ge j 11 with hlt | hge
          · exact hlt
          · rw [List.getElem?_eq_none (by rw [recC_len]; exact hge)] at hv; cases hv
        have := hat' j hj
        rw [Go.WideShapes.add_plain, e, hv] at this
        exact this
      have hcho : ∀ i, ∃ r : RecD, i < l → RecO W b (off + i * 11) r ∧ okR r := fun i => by
        by_cases hil : i < l
        · obtain ⟨y, hy⟩ := hall i hil; exact ⟨y, fun _ => hy⟩
        · exact ⟨zeroR, fun h => absurd h hil⟩
      let Y : Nat → RecD := fun i => (hcho i).choose
      have hY : ∀ i, i < l → RecO W b (off + i * 11) (Y i) ∧ okR (Y i) := fun i => (hcho i).choose_spec
      have hblt : b < W.heap.size := World.block_lt_of_cell? W _ ((hY 0 h0).1 0 _ rfl)
      refine ⟨(List.range l).map Y, hcs, by simp, ⟨fun _ => ⟨b, off, rfl, hblt, fun j r hj => ?_⟩, by simp; omega, fun e => by cases e⟩, fun x hx => ?_, by omega⟩
      · have hjl : j < l := by
          rcases Nat.lt_or_ge j l with h | h
          · exact h
          · rw [List.getElem?_eq_none (by simpa using h)] at hj; cases hj
        simp [hjl] at hj
        subst hj
        exact (hY j hjl).1
      · simp only [List.mem_map, List.mem_range] at hx
        obtain ⟨i, hil, rfl⟩ := hx
        exact (hY i hil).2
set_option maxRecDepth 100000 in
/-- Lists of lists of records that come in. -/
theorem slice_lists {H : Type} {enc : TypeId × Value → H} {W : World} {a : Option Addr} {len cap : Nat} {d : DataW H} {p : List MemPlace} (h : DataW.Trod enc Try.prog W 0 (fun _ => true) true 22 (.slice a len cap) d p) :
    ∃ Ls : List (List RecD), Ls.length = len ∧ GoodL a Ls W ∧ (∀ ls ∈ Ls, ∀ r ∈ ls, okR r) ∧ len ≤ maxLen := by
  obtain ⟨fuel, hf⟩ := h
  rcases open_slice Try.underlying22 hf with ⟨hcs, _⟩ | ⟨x, l, c, m, n, D, Pl, hcs, _, hl, hm, hmm, _, hi⟩
  · simp [Value.cells] at hcs
    obtain ⟨rfl, rfl, rfl⟩ := hcs
    exact ⟨[], rfl, fun h0 => absurd h0 (by simp), (fun _ hx => by cases hx), by simp⟩
  · simp [Value.cells] at hcs
    obtain ⟨rfl, rfl, rfl⟩ := hcs
    rw [show Try.prog.cellsOf 28 = 1 by kernel_rfl] at hi
    have hmc : len ≤ m := by rw [hmm]; simpa using hl
    rcases Nat.eq_zero_or_pos len with h0 | h0
    · subst h0
      exact ⟨[], rfl, fun h0 => absurd h0 (by simp), (fun _ hx => by cases hx), by simp⟩
    · obtain ⟨b, off, spot⟩ := x
      obtain ⟨cs0, hc0, _⟩ := hi 0 (by omega)
      have hspot : spot = none := by
        obtain ⟨_, hl0, hat0⟩ := World.cells?_some hc0
        have := hat0 0 (by omega)
        rw [List.getElem?_eq_getElem (by omega)] at this
        simpa [Addr.add] using World.cell?_spot this
      subst hspot
      have hall : ∀ i, i < len → ∃ rs : List RecD, (∃ A' c', W.cell? ⟨b, off + i, none⟩ = some (.slice A' rs.length c') ∧ GoodR A' c' rs W) ∧ ∀ r ∈ rs, okR r := fun i hil => by
        obtain ⟨cs', hc', ht'⟩ := hi i (by omega)
        rw [Go.WideShapes.add_plain] at hc'
        obtain ⟨_, hl', hat'⟩ := World.cells?_some hc'
        obtain ⟨a', len', cap', rs, e, hrl, hg, hok, _⟩ := recs_cells ht'
        refine ⟨rs, ⟨a', cap', ?_, hg⟩, hok⟩
        have := hat' 0 (by omega)
        rw [Go.WideShapes.add_plain, e] at this
        rw [hrl]
        simpa using this
      have hcho : ∀ i, ∃ rs : List RecD, i < len → (∃ A' c', W.cell? ⟨b, off + i, none⟩ = some (.slice A' rs.length c') ∧ GoodR A' c' rs W) ∧ ∀ r ∈ rs, okR r := fun i => by
        by_cases hil : i < len
        · obtain ⟨y, hy⟩ := hall i hil; exact ⟨y, fun _ => hy⟩
        · exact ⟨[], fun h => absurd h hil⟩
      let Y : Nat → List RecD := fun i => (hcho i).choose
      have hY : ∀ i, i < len → (∃ A' c', W.cell? ⟨b, off + i, none⟩ = some (.slice A' (Y i).length c') ∧ GoodR A' c' (Y i) W) ∧ ∀ r ∈ Y i, okR r := fun i => (hcho i).choose_spec
      have hblt : b < W.heap.size := by
        obtain ⟨⟨_, _, h1, _⟩, _⟩ := hY 0 h0
        exact World.block_lt_of_cell? W _ h1
      refine ⟨(List.range len).map Y, by simp, fun _ => ⟨b, off, rfl, hblt, fun j l hj => ?_⟩, fun x hx => ?_, by omega⟩
      · have hjl : j < len := by
          rcases Nat.lt_or_ge j len with h | h
          · exact h
          · rw [List.getElem?_eq_none (by simpa using h)] at hj; cases hj
        simp [hjl] at hj
        subst hj
        exact (hY j hjl).1
      · simp only [List.mem_map, List.mem_range] at hx
        obtain ⟨i, hil, rfl⟩ := hx
        exact (hY i hil).2
end Go.Proofs.Ytdmkkfpbgpijjaa
namespace Go.Proofs.Ytdmkkfpbgpijjaa
open Go.RowKit Go.Deep
set_option linter.unusedVariables false

def OpenSays (xs : List Int) (o : Bool) (w : World) (e : Ending) (w' : World) : Prop := ∃ A c, e = .returned (.tuple #[.slice A xs.length c, .bool o]) ∧ Good A c xs w' ∧ Below w.heap.size w w'
end Go.Proofs.Ytdmkkfpbgpijjaa
namespace Go.Proofs.Ytdmkkfpbgpijjaa
open Go.RowKit Go.Deep
set_option linter.unusedVariables false


theorem xor_mod2 (u v : Nat) : (u ^^^ v) % 2 = (u + v) % 2 := by
  have h := Nat.xor_mod_two_pow (a := u) (b := v) (n := 1)
  rw [Nat.pow_one] at h
  rw [h]
  rcases Nat.mod_two_eq_zero_or_one u with a | a <;> rcases Nat.mod_two_eq_zero_or_one v with b | b <;> rw [a, b] <;> simp <;> omega
/-- Where the exclusive or stands behind k bits. -/
structure XorAt (x y k a b p o : Nat) : Prop where
  a : x / 2 ^ k = a
  b : y / 2 ^ k = b
  p : 2 ^ k = p
  o : (x ^^^ y) % 2 ^ k = o
theorem XorAt.start (x y : Nat) : XorAt x y 0 x y 1 0 := ⟨by simp, by simp, by simp, by simp [Nat.mod_one]⟩
theorem XorAt.step {x y k a b p o : Nat} (h : XorAt x y k a b p o) : XorAt x y (k + 1) (a / 2) (b / 2) (p * 2) (o + p * ((a + b) % 2)) := by
  obtain ⟨rfl, rfl, rfl, rfl⟩ := h
  refine ⟨?_, ?_, ?_, ?_⟩
  · rw [Nat.pow_succ, Nat.div_div_eq_div_mul]
  · rw [Nat.pow_succ, Nat.div_div_eq_div_mul]
  · rw [Nat.pow_succ]
  · rw [Nat.mod_pow_succ, Nat.xor_div_two_pow, xor_mod2]
theorem XorAt.lt {x y k a b p o : Nat} (h : XorAt x y k a b p o) (hk : k ≤ 25) (hx : x < 33554432) (hy : y < 33554432) : a < 33554432 ∧ b < 33554432 ∧ p ≤ 33554432 ∧ o < p := by
  obtain ⟨rfl, rfl, rfl, rfl⟩ := h
  have h1 : 2 ^ k ≤ 2 ^ 25 := Nat.pow_le_pow_right (by decide) hk
  have h2 := Nat.div_le_self x (2 ^ k)
  have h3 := Nat.div_le_self y (2 ^ k)
  exact ⟨by omega, by omega, by omega, Nat.mod_lt _ (Nat.two_pow_pos k)⟩
theorem XorAt.same {x y k a b p o : Nat} (h : XorAt x y k a b p o) (e : a % 2 = b % 2) : XorAt x y (k + 1) (a / 2) (b / 2) (p * 2) o := by
  have := h.step
  rwa [show (a + b) % 2 = 0 by omega, Nat.mul_zero, Nat.add_zero] at this
theorem XorAt.other {x y k a b p o : Nat} (h : XorAt x y k a b p o) (e : a % 2 ≠ b % 2) : XorAt x y (k + 1) (a / 2) (b / 2) (p * 2) (o + p) := by
  have := h.step
  rwa [show (a + b) % 2 = 1 by omega, Nat.mul_one] at this
theorem XorAt.done {x y a b p o : Nat} (h : XorAt x y 25 a b p o) (hx : x < 33554432) (hy : y < 33554432) : x ^^^ y = o := by
  have := h.o
  rwa [Nat.mod_eq_of_lt (Nat.xor_lt_two_pow (n := 25) (by omega) (by omega))] at this
theorem itd_next (m p r : Nat) (h : itd m p = r) : itd (m + 1) p = dbl r := by rw [itd_add, h, itd_s, itd_0]
theorem crc_next (s0 j q : Nat) (zs : List Int) (hj : j < zs.length) (h : crc s0 (bytesOf (zs.take j)) = q) : crc s0 (bytesOf (zs.take (j + 1))) = itd 8 (q ^^^ (zs[j]?.getD 0).toNat * 65536) := by
  rw [List.take_succ_eq_append_getElem hj, bytesOf_append, crc_append, h]
  simp only [List.getElem?_eq_getElem hj, Option.getD_some]
  rfl
theorem tmod_neg (n : Int) (h : n < 0) : n.tmod 16777216 = -((-n) % 16777216) := by
  have e := Int.neg_tmod (-n) 16777216
  rw [Int.neg_neg] at e
  rw [e, Int.tmod_eq_emod_of_nonneg (by omega)]
theorem low24_tmod (n : Int) : n.tmod 16777216 = ((low24 n : Nat) : Int) ∨ n.tmod 16777216 = ((low24 n : Nat) : Int) - 16777216 := by
  unfold low24
  by_cases h : n < 0
  · rw [tmod_neg n h]; omega
  · rw [Int.tmod_eq_emod_of_nonneg (by omega)]; omega
end Go.Proofs.Ytdmkkfpbgpijjaa
namespace Go.Proofs.Ytdmkkfpbgpijjaa
open Go.RowKit Go.Deep
set_option linter.unusedVariables false


theorem xor_i64 (a b : Nat) (ha : a < 33554432) (hb : b < 33554432) : bits .xor .i64 (a : Int) (b : Int) = ((a ^^^ b : Nat) : Int) := by
  have hx : a ^^^ b < 2 ^ 25 := Nat.xor_lt_two_pow (by omega) (by omega)
  have h1 : (BitVec.ofInt 64 (a : Int)).toNat = a := by rw [BitVec.toNat_ofInt]; omega
  have h2 : (BitVec.ofInt 64 (b : Int)).toNat = b := by rw [BitVec.toNat_ofInt]; omega
  show IntKind.i64.wrap ((BitVec.ofInt 64 (a : Int) ^^^ BitVec.ofInt 64 (b : Int)).toNat : Int) = _
  rw [BitVec.toNat_xor, h1, h2]
  simp [IntKind.wrap, IntKind.signed, IntKind.bits]
  omega
theorem bits_and_low (n : Int) : bits .and .i64 n 16777215 = ((low24 n : Nat) : Int) := by
  have e : (BitVec.ofInt 64 n).toNat = (n % 18446744073709551616).toNat := by rw [BitVec.toNat_ofInt]; rfl
  have e2 : (BitVec.ofInt 64 16777215).toNat = 2 ^ 24 - 1 := by decide
  show IntKind.i64.wrap ((BitVec.ofInt 64 n &&& BitVec.ofInt 64 16777215).toNat : Int) = _
  rw [BitVec.toNat_and, e, e2, Nat.and_two_pow_sub_one_eq_mod]
  simp [IntKind.wrap, IntKind.signed, IntKind.bits, low24]
  omega
set_option maxRecDepth 100000 in
set_option maxHeartbeats 1000000 in
theorem moreByte_any (s x q : Nat) (hs : s < 16777216) (hx : x < 256) (hq : Hid (itd 8 (s ^^^ x * 65536) = q)) (w : World) :
    Calls Try.prog 86 #[.int .i64 s, .int .u8 x] w fun e w' => e = .returned (.int .i64 (q : Int)) ∧ w = w' := by
  have hp : s ^^^ x * 65536 < 16777216 := xor24 _ _ hs (by omega)
  have hx1 : bits .xor .i64 (s : Int) ((x : Int) * 65536) = ((s ^^^ x * 65536 : Nat) : Int) := by
    rw [← xor_i64 s (x * 65536) (by omega) (by omega)]; rfl
  generalize s ^^^ x * 65536 = p at *
  go_enter Try.func86, Try.ntmps86
  go_wp2
  clear hx1 hs hx
  go_loop [0, 10] (fun s k => ∃ m r : Nat, m ≤ 8 ∧ k = .int .i64 m ∧ s = .int .i64 r ∧ r < 16777216 ∧ Hid (itd m p = r)) (fun _ k => 8 - (intOf k).toNat)
  case atStart => exact ⟨0, p, by omega, rfl, rfl, hp, Lib.hid (itd_0 p)⟩
  case round =>
    obtain ⟨m, r, hm, rfl, rfl, hrl, R⟩ := hrel
    by_cases hlt8 : m < 8
    · have hn8 := Lib.hid (itd_next m p r R.out)
      by_cases hbig : 16777216 ≤ 2 * r
      · have hbI : (16777215 : Int) < (r : Int) * 2 := by omega
        have hd : dbl r = (2 * r) ^^^ 25578747 := by unfold dbl; rw [if_pos hbig]
        have hdl := dbl_lt r hrl
        rw [hd] at hdl hn8
        have hxr : bits .xor .i64 ((r : Int) * 2) 25578747 = (((2 * r) ^^^ 25578747 : Nat) : Int) := by
          rw [← xor_i64 (2 * r) 25578747 (by omega) (by omega), show ((2 * r : Nat) : Int) = (r : Int) * 2 by omega]; rfl
        clear hd hbig
        generalize (2 * r) ^^^ 25578747 = r2 at *
        go_wp2
        have hdl := Lib.hid hdl
        clear hrl hbI hxr
        go_round
        case rel => first | exact ⟨m + 1, r2, by omega, by go_num, rfl, hdl.out, hn8⟩ | exact ⟨m + 1, by omega, by omega, r2, rfl, hdl.out, hn8⟩
        case measure => simp [intOf]; omega
      · have hd : dbl r = 2 * r := by unfold dbl; rw [if_neg hbig]
        rw [hd] at hn8
        clear hd
        have hbI : ¬ ((16777215 : Int) < (r : Int) * 2) := by omega
        have hbig := Lib.hid hbig
        go_wp2
        clear hrl hbI
        go_round
        case rel => first | exact ⟨m + 1, 2 * r, by omega, by go_num, by go_num, by have := hbig.out; omega, hn8⟩ | exact ⟨m + 1, by omega, by omega, 2 * r, by omega, by have := hbig.out; omega, hn8⟩
        case measure => simp [intOf]; omega
    · obtain rfl : m = 8 := by omega
      obtain rfl : r = q := by rw [← R.out, ← hq.out]
      go_wp2
      go_ret
      exact ⟨rfl, rfl⟩
set_option maxRecDepth 100000 in
set_option maxHeartbeats 2000000 in
theorem more_any (n : Int) (A : Option Addr) (zs : List Int) (c l q0 : Nat) (hll : Hid (zs.length = l)) (hz : isBytes zs) (hl : l ≤ 2100) (hq : Hid (crc (low24 n) (bytesOf zs) = q0)) (w : World) (g : Ints .u8 w.heap.size w A zs) :
    Calls Try.prog 77 #[.int .i64 n, .slice A l c] w fun e w' => e = .returned (.int .i64 (q0 : Int)) ∧ w = w' := by
  have hlo := low24_lt n
  have hx1 := bits_and_low n
  generalize low24 n = s0 at *
  go_enter Try.func77, Try.ntmps77
  go_wp2
  clear hx1
  go_loop [0, 6, 11] (fun s _ i => ∃ j q : Nat, j ≤ l ∧ i = .int .i64 j ∧ s = .int .i64 q ∧ q < 16777216 ∧ Hid (crc s0 (bytesOf (zs.take j)) = q)) (fun _ _ i => l - (intOf i).toNat)
  case atStart => exact ⟨0, s0, by omega, rfl, rfl, hlo, Lib.hid rfl⟩
  case round =>
    obtain ⟨j, q, hj, rfl, rfl, hql, H⟩ := hrel
    by_cases hlt : j < l
    · obtain ⟨b, off, rfl, hb, hc⟩ := g (by have := hll.out; omega)
      have hcj := hc j (by have := hll.out; omega)
      have hzz := hz.at j
      have hnx := Lib.hid (crc_next s0 j q zs (by have := hll.out; omega) H.out)
      clear hc
      generalize zs[j]?.getD 0 = z at *
      obtain ⟨y, rfl⟩ : ∃ y : Nat, z = y := ⟨z.toNat, by omega⟩
      rw [Int.toNat_natCast] at hnx
      have hp : q ^^^ y * 65536 < 16777216 := xor24 _ _ hql (by omega)
      have hq2 : itd 8 (q ^^^ y * 65536) < 16777216 := itd_lt _ _ hp
      have cx := moreByte_any q y (itd 8 (q ^^^ y * 65536)) hql (by omega) (Lib.hid rfl)
      generalize itd 8 (q ^^^ y * 65536) = q2 at *
      obtain ⟨hz1, hz2⟩ := hzz
      clear hp hlo
      go_wp2_with (go_at_call 86; refine (cx _).mono ?_; rintro e w' ⟨rfl, rfl⟩)
      have hql2 := Lib.hid hq2
      clear cx hql hq2
      go_round
      case rel => first | exact ⟨j + 1, q2, by omega, by go_num, rfl, hql2.out, hnx⟩ | exact ⟨j + 1, by omega, by omega, q2, rfl, hql2.out, hnx⟩
      case measure => simp [intOf]; omega
    · obtain rfl : j = l := by omega
      have hq' : q = q0 := by rw [← H.out, ← hq.out, ← hll.out, List.take_length]
      subst hq'
      go_wp2
      go_ret
      exact ⟨rfl, rfl⟩
set_option maxRecDepth 100000 in
set_option maxHeartbeats 1000000 in
theorem sum_any (A : Option Addr) (zs : List Int) (c l q0 : Nat) (hll : zs.length = l) (hz : isBytes zs) (hl : l ≤ 2100) (hq : sumB zs = q0) (w : World) (g : Ints .u8 w.heap.size w A zs) :
    Calls Try.prog 65 #[.slice A l c] w fun e w' => e = .returned (.int .i64 (q0 : Int)) ∧ w = w' := by
  have cx := more_any 11994318 A zs c l q0 (Lib.hid hll) hz hl (Lib.hid (by rw [← hq]; rfl)) w g
  clear hll hq
  go_enter Try.func65, Try.ntmps65
  go_wp2_with (go_at_call 77; refine cx.mono ?_; rintro e w' ⟨rfl, rfl⟩)
  go_ret
  exact ⟨rfl, rfl⟩
set_option maxRecDepth 100000 in
set_option maxHeartbeats 1000000 in
theorem three_any (n : Int) (ts : List Int) (hts : threeL (low24 n) = ts) (w : World) : Calls Try.prog 64 #[.int .i64 n] w (GivesB ts w) := by
  go_enter Try.func64, Try.ntmps64
  go_wp2
  go_ret
  subst hts
  have e1 : n / 65536 % 256 = ((low24 n / 65536 % 256 : Nat) : Int) := by unfold low24; omega
  have e2 : n / 256 % 256 = ((low24 n / 256 % 256 : Nat) : Int) := by unfold low24; omega
  have e3 : n % 256 = ((low24 n % 256 : Nat) : Int) := by unfold low24; omega
  rw [e1, e2, e3]
  exact ⟨_, rfl, World.ownsRow_lit w #[_, _, _] 3 (Nat.le_refl _) (by decide) rfl, (Below.refl _ _).alloc (Nat.le_refl _) _⟩
end Go.Proofs.Ytdmkkfpbgpijjaa
namespace Go.Proofs.Ytdmkkfpbgpijjaa
open Go.RowKit Go.Deep
set_option linter.unusedVariables false


set_option maxRecDepth 100000 in
set_option maxHeartbeats 1000000 in
theorem grow_nil (n : Nat) (h0 : 0 < n) (hn : n ≤ 10000) (w : World) :
    Calls Try.prog 66 #[.slice none 0 0, .int .i64 n] w (GivesB [] w) := by
  obtain ⟨i0, hi, hz0, hz1, hz2⟩ := info_parts info_u8
  have hr := fun ty => Lib.run_append_nil_zeros (P := Try.prog) w 52 3 ty 5 i0 (.int .u8 0) .i64 .i64 Try.underlying52 Try.underlying3 hi hz0 n h0 (by omega) (by omega) (by rw [hz2]; omega)
  have hG := grownCap_ge w n 0 5
  have hG2 := grownCap_le_maxLen w n 0 5 (by unfold maxLen; omega)
  generalize grownCap w n 0 5 = G at *
  have hG63 : G ≤ 9223372036854775807 := by unfold maxLen at hG2; omega
  go_enter Try.func66, Try.ntmps66
  go_wp2_with (at_builtin; refine Lib.wpList_append_run _ rfl _ _ _ _ rfl _ _ rfl rfl _ _ (hr _) ?_)
  all_goals
    go_ret
    refine ⟨_, rfl, ⟨rfl, .inr ⟨w.heap.size, G, _, rfl, Nat.le_refl _, heap_alloc_new w _, Nat.zero_le _, hG2, ?_, rfl⟩⟩, ((Below.refl _ _).alloc (Nat.le_refl _) _).drew⟩
    simp [size_zeroCells]
    omega
/-- A row of two slices. -/
def TwoAt (B : Nat) (v1 v2 : Value) (w : World) : Prop := w.cell? ⟨B, 0, none⟩ = some v1 ∧ w.cell? ⟨B, 1, none⟩ = some v2 ∧ B < w.heap.size
theorem TwoAt.below {B : Nat} {v1 v2 : Value} {w w' : World} (h : TwoAt B v1 v2 w) (hb : Below w.heap.size w w') : TwoAt B v1 v2 w' :=
  ⟨(hb.cell h.2.2).trans h.1, (hb.cell h.2.2).trans h.2.1, Nat.lt_of_lt_of_le h.2.2 hb.size⟩
set_option maxRecDepth 100000 in
set_option maxHeartbeats 1000000 in
theorem concat_two (B : Nat) (A A' : Option Addr) (xs ys : List Int) (c c' l l' : Nat) (hll : xs.length = l) (hll' : ys.length = l') (h0 : 0 < l + l') (hl : l ≤ 2200) (hl' : l' ≤ 2200) (w : World) (hB : TwoAt B (.slice A l c) (.slice A' l' c') w) (g : Good A c xs w) (g' : Good A' c' ys w) :
    Calls Try.prog 55 #[.slice (some ⟨B, 0, none⟩) 2 2] w (GivesB (xs ++ ys) w) := by
  have hb1 := hB.1
  have hb2 := hB.2.1
  go_enter Try.func55, Try.ntmps55
  go_wp2
  go_loop [3, 5, 11] (fun s _ i => (i = .int .i64 0 ∧ s = .int .i64 0) ∨ (i = .int .i64 1 ∧ s = .int .i64 l) ∨ (i = .int .i64 2 ∧ s = .int .i64 ((l : Int) + l'))) (fun _ _ i => 2 - (intOf i).toNat)
  case atStart => exact .inl ⟨rfl, rfl⟩
  case round =>
    rcases hrel with ⟨rfl, rfl⟩ | ⟨rfl, rfl⟩ | ⟨rfl, rfl⟩
    · go_wp2
      go_round
      case rel => exact .inr (.inl ⟨rfl, rfl⟩)
      case measure => decide
    · go_wp2
      go_round
      case rel => exact .inr (.inr ⟨rfl, rfl⟩)
      case measure => decide
    · have cg := grow_nil (l + l') h0 (by omega) w
      rw [Int.natCast_add] at cg
      go_wp2_with (go_at_call 66; refine cg.mono ?_; rintro e w1 ⟨v, rfl, hown, hbel⟩)
      clear cg hb1 hb2
      go_loopw [6, 8, 27] (fun v _ i wr => ∃ zs, ((i = .int .i64 0 ∧ zs = []) ∨ (i = .int .i64 1 ∧ zs = xs) ∨ (i = .int .i64 2 ∧ zs = xs ++ ys)) ∧ Owns w.heap.size wr v zs ∧ Below w.heap.size w wr) (fun _ _ i _ => 2 - (intOf i).toNat)
      case atStart => exact ⟨[], .inl ⟨rfl, rfl⟩, hown, hbel⟩
      case round =>
        obtain ⟨zs, hk, hown, hbel⟩ := hrel
        have hb1 := (hB.below hbel).1
        have hb2 := (hB.below hbel).2.1
        have g1 := g.below hbel
        have g2 := g'.below hbel
        rcases hk with ⟨rfl, rfl⟩ | ⟨rfl, rfl⟩ | ⟨rfl, rfl⟩
        · go_wp2_with (at_builtin; refine wpList_appendB rfl _ _ rfl w.heap.size _ [] rfl hown _ xs l c rfl hll g1 (by simp; omega) hbel.size w hbel ?_; intro v' w2 hown2 hbel2)
          go_roundw
          case rel => exact ⟨_, .inr (.inl ⟨rfl, rfl⟩), hown2, hbel2⟩
          case measure => decide
        · go_wp2_with (at_builtin; refine wpList_appendB rfl _ _ rfl w.heap.size _ zs rfl hown _ ys l' c' rfl hll' g2 (by omega) hbel.size w hbel ?_; intro v' w2 hown2 hbel2)
          go_roundw
          case rel => exact ⟨_, .inr (.inr ⟨rfl, rfl⟩), hown2, hbel2⟩
          case measure => decide
        · go_wp2
          go_ret
          exact ⟨_, rfl, hown, hbel⟩
end Go.Proofs.Ytdmkkfpbgpijjaa
namespace Go.Proofs.Ytdmkkfpbgpijjaa
open Go.RowKit Go.Deep
set_option linter.unusedVariables false


theorem three_of (q : Nat) (hq : q < 16777216) (w : World) : Calls Try.prog 64 #[.int .i64 (q : Int)] w fun e w' => ∃ A2 k2, e = .returned (.slice A2 3 k2) ∧ Good A2 k2 (threeL q) w' ∧ Below w.heap.size w w' := by
  refine (three_any (q : Int) (threeL q) (by rw [low24_of _ hq]) w).mono ?_
  rintro e w' ⟨v, rfl, hown, hbel⟩
  obtain ⟨A2, k2, rfl, hg⟩ := hown.good
  exact ⟨A2, k2, rfl, hg, hbel⟩
set_option maxRecDepth 100000 in
set_option maxHeartbeats 1000000 in
theorem seal_any (A : Option Addr) (zs ss : List Int) (c l : Nat) (hll : zs.length = l) (hz : isBytes zs) (hl : l ≤ 2100) (hs : sealL zs = ss) (w : World) (g : Good A c zs w) :
    Calls Try.prog 54 #[.slice A l c] w (GivesB ss w) := by
  have c1 := sum_any A zs c l (sumB zs) hll hz hl rfl w g.1
  have c2 := three_of (sumB zs) (sumB_lt hz) w
  subst hs
  unfold sealL
  have c3 := fun B A2 k2 W => concat_two B A A2 zs (threeL (sumB zs)) c k2 l 3 hll rfl (by omega) (by omega) (by omega) W
  generalize sumB zs = q at *
  go_enter Try.func54, Try.ntmps54
  go_wp2_with (first | (go_at_call 65; refine c1.mono ?_; rintro e w' ⟨rfl, rfl⟩) | (go_at_call 64; refine c2.mono ?_; rintro e w1 ⟨A2, k2, rfl, g2, hbel⟩))
  have hT : TwoAt w1.heap.size (.slice A l c) (.slice A2 3 k2) (w1.alloc (.cells #[.slice A l c, .slice A2 3 k2] 52)) := by
    have h := fun i v hi => cell_of_row (w1.alloc (.cells #[.slice A l c, .slice A2 3 k2] 52)) w1.heap.size i v 52 (0, 0) hi
    exact ⟨h 0 _ (heap_alloc_new w1 _), h 1 _ (heap_alloc_new w1 _), by simp⟩
  refine (c3 _ _ _ _ hT ((g.below hbel).alloc _) (g2.alloc _)).mono ?_
  rintro e w2 ⟨v, rfl, hown, hb2⟩
  go_wp2
  go_ret
  have hb3 : Below w.heap.size w (w1.alloc (.cells #[.slice A l c, .slice A2 3 k2] 52)) := hbel.alloc hbel.size _
  refine ⟨v, rfl, ?_, below_more hb3 hb2 (Nat.le_refl _)⟩
  refine ⟨hown.1, ?_⟩
  rcases hown.2 with h | ⟨g, cap, cur, h1, h2, h3⟩
  · exact .inl h
  · exact .inr ⟨g, cap, cur, h1, Nat.le_trans hb3.size h2, h3⟩
structure OpSt (w : World) (zs : List Int) (A : Option Addr) (c : Nat) (w' : World) : Prop where
  b : Below w.heap.size w w'
  z : Good A c zs w'
theorem OpSt.below {w : World} {zs : List Int} {A : Option Addr} {c : Nat} {W W' : World} (h : OpSt w zs A c W) (hb : Below W.heap.size W W') : OpSt w zs A c W' := ⟨below_more h.b hb (Nat.le_refl _), h.z.below hb⟩
theorem OpSt.drew {w : World} {zs : List Int} {A : Option Addr} {c : Nat} {W : World} (h : OpSt w zs A c W) : OpSt w zs A c W.drew := h.below (below_drewN (Below.refl _ _) 1)
end Go.Proofs.Ytdmkkfpbgpijjaa
namespace Go.Proofs.Ytdmkkfpbgpijjaa
open Go.RowKit Go.Deep
set_option linter.unusedVariables false

set_option maxRecDepth 100000 in
theorem place_any (n N q : Nat) (hn : 1 ≤ n) (hn2 : n ≤ 4294967296) (h1 : 1 ≤ N) (hN : N ≤ 512) (hq : placeOf N n = q) (w : World) : Calls Try.prog 41 #[.int .i64 n, .int .i64 N] w fun e w' => e = .returned (.int .i64 (q : Nat)) ∧ w = w' := by
  have e1 : ((n : Int) - 1) % (N : Int) = (q : Int) := by
    rw [← hq]
    unfold placeOf
    rw [show (n : Int) - 1 = ((n - 1 : Nat) : Int) by omega]
    rfl
  have E1 := Lib.hid e1
  clear e1 hq
  go_enter Try.func41, Try.ntmps41
  go_wp2
  go_ret
  exact ⟨by rw [← E1.out]; rfl, rfl⟩
set_option maxRecDepth 100000 in
theorem sectorsFor_any (A : Option Addr) (l c q : Nat) (hl : l ≤ 10000) (hq : (l + 15) / 16 = q) (w : World) : Calls Try.prog 35 #[.slice A l c] w fun e w' => e = .returned (.int .i64 (q : Nat)) ∧ w = w' := by
  have e1 : ((l : Int) + 16 - 1) / 16 = (q : Int) := by omega
  have E1 := Lib.hid e1
  clear e1 hq
  go_enter Try.func35, Try.ntmps35
  go_wp2
  go_ret
  exact ⟨by rw [← E1.out]; rfl, rfl⟩
def NumGives (n : Nat) (w : World) (e : Ending) (w' : World) : Prop := ∃ A c, e = .returned (.slice A 4 c) ∧ Good A c (bytesL n 4) w' ∧ Below w.heap.size w w'
set_option maxRecDepth 100000 in
theorem numberOf_any (n : Nat) (h : n < 4294967296) (w : World) : Calls Try.prog 53 #[.int .i64 n] w (NumGives n w) := by
  have c1 := bytes_list n (by omega) 4 (by omega) (by omega) w
  go_enter Try.func53, Try.ntmps53
  go_wp2_with fail
  refine c1.mono ?_
  rintro e w' ⟨rfl, hI, _, _, hb⟩
  go_wp2
  go_ret
  exact ⟨_, _, rfl, ⟨hI, by rw [bytesL_length]; omega, fun e => by cases e⟩, hb⟩
set_option maxRecDepth 100000 in
theorem readNumber_any (b off c l q : Nat) (zs : List Int) (hl : zs.length = l) (h4 : 4 ≤ l) (hz : isBytes zs) (hq : fromN (zs.take 4) = q) (w : World) (g : Good (some ⟨b, off, none⟩) c zs w) :
    Calls Try.prog 50 #[.slice (some ⟨b, off, none⟩) l c] w fun e w' => e = .returned (.int .i64 (q : Nat)) ∧ Below w.heap.size w w' := by
  have hlt : (zs.take 4).length = 4 := by rw [List.length_take]; omega
  have hq2 : q < 4294967296 := by have := fromN_lt (zs.take 4) (hz.take 4); rw [hlt] at this; omega
  have c1 := from_yes (some ⟨b, off, none⟩) c (zs.take 4) (hz.take 4) (by omega) w (g.take 4).1
  rw [hlt, hq] at c1
  have hc : 4 ≤ c := by have := g.2.1; omega
  have hci : (4 : Int) ≤ (c : Int) := by omega
  clear g hq
  go_enter Try.func50, Try.ntmps50
  go_wp2_with fail
  refine c1.mono ?_
  rintro e w' ⟨rfl, hb⟩
  go_wp2
  go_ret
  exact ⟨rfl, hb⟩

/-! ### slices.Concat of many -/
structure PartD where
  A : Option Addr
  c : Nat
  zs : List Int
def PartsAt (B : Nat) (ps : List PartD) (w : World) : Prop := B < w.heap.size ∧ ∀ j p, ps[j]? = some p → w.cell? ⟨B, j, none⟩ = some (.slice p.A p.zs.length p.c) ∧ Good p.A p.c p.zs w
theorem PartsAt.below {B : Nat} {ps : List PartD} {w w' : World} (h : PartsAt B ps w) (hb : Below w.heap.size w w') : PartsAt B ps w' :=
  ⟨Nat.lt_of_lt_of_le h.1 hb.size, fun j p hp => ⟨(hb.cell (p := ⟨B, j, none⟩) h.1).trans (h.2 j p hp).1, (h.2 j p hp).2.below hb⟩⟩
def allB (ps : List PartD) : List Int := ps.flatMap (·.zs)
theorem allB_snoc (ps : List PartD) (k : Nat) (h : k < ps.length) : allB (ps.take (k + 1)) = allB (ps.take k) ++ ps[k].zs := by
  unfold allB
  rw [List.take_succ_eq_append_getElem h, List.flatMap_append]
  simp
theorem allB_le (ps : List PartD) (k : Nat) : (allB (ps.take k)).length ≤ (allB ps).length := by
  conv => rhs; rw [← List.take_append_drop k ps]
  unfold allB
  rw [List.flatMap_append, List.length_append]; omega
set_option maxRecDepth 100000 in
set_option maxHeartbeats 1000000 in
theorem concat_many (B : Nat) (ps : List PartD) (m n : Nat) (zs : List Int) (hm : ps.length = m) (hm2 : m ≤ 100) (hzs : allB ps = zs) (hn : zs.length = n) (h0 : 0 < n) (hl : n ≤ 4000) (w : World) (h : PartsAt B ps w) :
    Calls Try.prog 55 #[.slice (some ⟨B, 0, none⟩) m m] w (GivesB zs w) := by
  have HM := Lib.hid hm
  have HZ := Lib.hid hzs
  have HN := Lib.hid hn
  have HLE := Lib.hid (fun k => allB_le ps k)
  clear hm hzs hn
  go_enter Try.func55, Try.ntmps55
  go_wp2
  go_loop [3, 5, 11] (fun s _ i => ∃ k q : Nat, k ≤ m ∧ i = .int .i64 k ∧ s = .int .i64 q ∧ q = (allB (ps.take k)).length) (fun _ _ i => m - (intOf i).toNat)
  case atStart => exact ⟨0, 0, by omega, rfl, rfl, rfl⟩
  case round =>
    obtain ⟨k, q, hk, rfl, rfl, hq⟩ := hrel
    have hqn : q ≤ n := by rw [hq, ← HN.out, ← HZ.out]; exact HLE.out k
    by_cases hlt : k < m
    · have hkl : k < ps.length := by rw [HM.out]; exact hlt
      obtain ⟨hc, _⟩ := h.2 k ps[k] (List.getElem?_eq_getElem hkl)
      have hs := congrArg List.length (allB_snoc ps k hkl)
      rw [List.length_append, ← hq] at hs
      have hle := HLE.out (k + 1)
      rw [hs, HZ.out, HN.out] at hle
      have HS := Lib.hid hs
      have HQ := Lib.hid hq
      clear hs hq
      generalize ps[k] = p at *
      obtain ⟨pA, pc, pz⟩ := p
      obtain ⟨pl, hpl⟩ : ∃ pl, pz.length = pl := ⟨_, rfl⟩
      simp only at *
      rw [hpl] at hc hle
      have HPL := Lib.hid hpl
      clear hpl
      have hlti : (k : Int) < (m : Int) := by omega
      go_wp2
      go_round
      case rel => exact ⟨k + 1, q + pl, by omega, by go_num, by go_num, by rw [HS.out, HPL.out]⟩
      case measure => simp [intOf]; omega
    · obtain rfl : k = m := by omega
      have hqe : q = n := by rw [hq, ← HN.out, ← HZ.out, List.take_of_length_le (by rw [HM.out]; exact Nat.le_refl _)]
      subst hqe
      have cg := grow_nil q h0 (by omega) w
      clear hq
      go_wp2_with (go_at_call 66; refine cg.mono ?_; rintro e w1 ⟨v, rfl, hown, hbel⟩)
      clear cg
      go_loopw [6, 8, 27] (fun v _ i wr => ∃ j : Nat, j ≤ k ∧ i = .int .i64 j ∧ Owns w.heap.size wr v (allB (ps.take j)) ∧ Below w.heap.size w wr) (fun _ _ i _ => k - (intOf i).toNat)
      case atStart => exact ⟨0, by omega, rfl, hown, hbel⟩
      case round =>
        obtain ⟨j, hj, rfl, hown, hbel⟩ := hrel
        by_cases hlt2 : j < k
        · have hkl : j < ps.length := by rw [HM.out]; exact hlt2
          obtain ⟨hc, hg⟩ := (h.below hbel).2 j ps[j] (List.getElem?_eq_getElem hkl)
          have hs := allB_snoc ps j hkl
          have hle := HLE.out (j + 1)
          rw [hs, HZ.out, HN.out, List.length_append] at hle
          have HS := Lib.hid hs
          clear hs
          generalize ps[j] = p at *
          obtain ⟨pA, pc, pz⟩ := p
          obtain ⟨pl, hpl⟩ : ∃ pl, pz.length = pl := ⟨_, rfl⟩
          simp only at *
          rw [hpl] at hc
          have HPL := Lib.hid hpl
          have HLL := Lib.hid hle
          clear hpl hle
          have hlti : (j : Int) < (k : Int) := by omega
          go_wp2_with (at_builtin; refine wpList_appendB rfl _ _ rfl w.heap.size _ (allB (ps.take j)) rfl hown _ pz pl pc rfl HPL.out hg (by have := HLL.out; omega) hbel.size w hbel ?_; intro v' w2 hown2 hbel2)
          go_roundw
          case rel => exact ⟨j + 1, by omega, by go_num, by rw [HS.out]; exact hown2, hbel2⟩
          case measure => simp [intOf]; omega
        · obtain rfl : j = k := by omega
          rw [List.take_of_length_le (by rw [HM.out]; exact Nat.le_refl _), HZ.out] at hown
          go_wp2
          go_ret
          exact ⟨_, rfl, hown, hbel⟩
end Go.Proofs.Ytdmkkfpbgpijjaa
namespace Go.Proofs.Ytdmkkfpbgpijjaa
open Go.RowKit Go.Deep Go.Maps
set_option linter.unusedVariables false

theorem goodK {w : World} {b c : Nat} {zs : List Int} (h : w.rangeAt b 0 (secC zs)) (hb : b < w.heap.size) (hc : zs.length ≤ c) : Good (some ⟨b, 0, none⟩) c zs w := good_of_range h hb c hc
theorem range_of_good {w : World} {b off c : Nat} {zs : List Int} (g : Good (some ⟨b, off, none⟩) c zs w) : w.rangeAt b off (secC zs) := by
  intro j v hv
  have hj : j < zs.length := by
    rcases Nat.lt_or_ge j zs.length with h | h
    · exact h
    · rw [List.getElem?_eq_none (by rw [secC_len]; exact h)] at hv; cases hv
  obtain ⟨b', off', e, _, hc⟩ := g.1 (by omega)
  cases e
  rw [hc j hj]
  simp [secC, hj] at hv
  simp [hj, hv]
set_option maxRecDepth 100000 in
theorem info_room : (Try.prog.info? 103).map (fun i => (i.zero, i.size)) = some (some (.agg (Array.replicate 16 (Value.int .u8 0))), 16) := by kernel_rfl
theorem or_flag (l : Nat) (h : l ≤ 16) : bits .or .u8 (l : Int) 128 = ((flagN l true : Nat) : Int) := by
  have : ∀ k : Fin 17, bits .or .u8 ((k.1 : Nat) : Int) 128 = ((flagN k.1 true : Nat) : Int) := by decide +kernel
  exact this ⟨l, by omega⟩
theorem parts_four {w : World} {B : Nat} {t : TypeId} {A1 A2 A3 A4 : Option Addr} {c1 c2 c3 c4 l1 l2 l3 l4 : Nat} {z1 z2 z3 z4 : List Int} (hb : w.heap[B]? = some (.cells #[.slice A1 l1 c1, .slice A2 l2 c2, .slice A3 l3 c3, .slice A4 l4 c4] t))
    (e1 : z1.length = l1) (e2 : z2.length = l2) (e3 : z3.length = l3) (e4 : z4.length = l4) (g1 : Good A1 c1 z1 w) (g2 : Good A2 c2 z2 w) (g3 : Good A3 c3 z3 w) (g4 : Good A4 c4 z4 w) : PartsAt B [⟨A1, c1, z1⟩, ⟨A2, c2, z2⟩, ⟨A3, c3, z3⟩, ⟨A4, c4, z4⟩] w := by
  subst e1 e2 e3 e4
  refine ⟨(Array.getElem?_eq_some_iff.1 hb).1, fun j p hp => ?_⟩
  have hc : ∀ j, w.cell? ⟨B, j, none⟩ = _ := fun j => cell_of_row w B j _ t (0, 0) hb
  match j, hp with
  | 0, hp => cases hp; exact ⟨(hc 0).trans rfl, g1⟩
  | 1, hp => cases hp; exact ⟨(hc 1).trans rfl, g2⟩
  | 2, hp => cases hp; exact ⟨(hc 2).trans rfl, g3⟩
  | 3, hp => cases hp; exact ⟨(hc 3).trans rfl, g4⟩
  | j + 4, hp => simp at hp
theorem good_new (w : World) (z : Int) : Good (some ⟨w.heap.size, 0, none⟩) 1 [z] (w.alloc (.cells #[.int .u8 z] 5)) :=
  goodK (fun j v hv => by
    rw [cell_of_row _ _ _ _ 5 (0, 0) (heap_alloc_new w _)]
    have hj : j = 0 := by
      rcases Nat.eq_zero_or_pos j with h | h
      · exact h
      · rw [List.getElem?_eq_none (by simp [secC]; omega)] at hv; cases hv
    subst hj
    exact hv) (by simp) (by simp)
/-- What stays while a sector's bytes are laid together. -/
structure ByT (w : World) (An : Option Addr) (cn : Nat) (rb : Nat) (n : Nat) (zr : List Int) (W : World) : Prop where
  b : Below w.heap.size w W
  num : Good An cn (bytesL n 4) W
  room : Good (some ⟨rb, 0, none⟩) 16 zr W
theorem ByT.below {w : World} {An : Option Addr} {cn rb n : Nat} {zr : List Int} {W W' : World} (h : ByT w An cn rb n zr W) (hb : Below W.heap.size W W') : ByT w An cn rb n zr W' := ⟨below_more h.b hb (Nat.le_refl _), h.num.below hb, h.room.below hb⟩
theorem ByT.alloc {w : World} {An : Option Addr} {cn rb n : Nat} {zr : List Int} {W : World} (h : ByT w An cn rb n zr W) (o : Obj) : ByT w An cn rb n zr (W.alloc o) := h.below ((Below.refl _ _).alloc (Nat.le_refl _) o)
def bodyOf (n first : Nat) (q : Int) (zr : List Int) : List Int := bytesL n 4 ++ bytesL first 4 ++ [q] ++ zr
theorem bodyOf_len (n first : Nat) (q : Int) (zr : List Int) (h : zr.length = 16) : (bodyOf n first q zr).length = 25 := by simp [bodyOf, bytesL_length, h]
theorem concat_a {w : World} {An : Option Addr} {cn rb n first : Nat} {q : Int} {zr : List Int} (hr : zr.length = 16) {W : World} (h : ByT w An cn rb n zr W) (A1 : Option Addr) (c1 : Nat) (g1 : Good A1 c1 (bytesL first 4) W) :
    Calls Try.prog 55 #[.slice (some ⟨W.heap.size + 1, 0, none⟩) 4 4] ((W.alloc (.cells #[.int .u8 q] 5)).alloc (.cells #[.slice An 4 cn, .slice A1 4 c1, .slice (some ⟨W.heap.size, 0, none⟩) 1 1, .slice (some ⟨rb, 0, none⟩) 16 16] 52)) fun e w' => ∃ A2 c2, e = .returned (.slice A2 25 c2) ∧ Good A2 c2 (bodyOf n first q zr) w' ∧ ByT w An cn rb n zr w' ∧ Below W.heap.size W w' := by
  have hh := heap_alloc_new (W.alloc (.cells #[.int .u8 q] 5)) (.cells #[.slice An 4 cn, .slice A1 4 c1, .slice (some ⟨W.heap.size, 0, none⟩) 1 1, .slice (some ⟨rb, 0, none⟩) 16 16] 52)
  rw [World.size_alloc] at hh
  have h2 := (h.alloc (.cells #[.int .u8 q] 5)).alloc (.cells #[.slice An 4 cn, .slice A1 4 c1, .slice (some ⟨W.heap.size, 0, none⟩) 1 1, .slice (some ⟨rb, 0, none⟩) 16 16] 52)
  have hp := parts_four hh (bytesL_length _ _) (bytesL_length _ _) rfl hr h2.num ((g1.alloc _).alloc _) ((good_new W q).alloc _) h2.room
  refine (concat_many (W.heap.size + 1) _ 4 25 (bodyOf n first q zr) rfl (by omega) (by simp [allB, bodyOf]) (bodyOf_len _ _ _ _ hr) (by omega) (by omega) _ hp).mono ?_
  rintro e w' ⟨v, rfl, ho, hb⟩
  obtain ⟨A2, c2, rfl, g2⟩ := ho.good
  exact ⟨A2, c2, by rw [bodyOf_len _ _ _ _ hr], g2, h2.below hb, (((Below.refl W.heap.size W).alloc (Nat.le_refl _) _).alloc (by simp) _).trans (hb.mono (by simp; omega))⟩
theorem concat_b {w : World} {An : Option Addr} {cn rb n first : Nat} {q : Int} {zr : List Int} (hr : zr.length = 16) {W0 W : World} (hW : Below (W0.heap.size + 1) (W0.alloc (.cells #[.int .u8 q] 5)) W) (h : ByT w An cn rb n zr W) (A1 : Option Addr) (c1 : Nat) (g1 : Good A1 c1 (bytesL first 4) W) :
    Calls Try.prog 55 #[.slice (some ⟨W.heap.size, 0, none⟩) 4 4] (W.alloc (.cells #[.slice An 4 cn, .slice A1 4 c1, .slice (some ⟨W0.heap.size, 0, none⟩) 1 1, .slice (some ⟨rb, 0, none⟩) 16 16] 52)) fun e w' => ∃ A2 c2, e = .returned (.slice A2 25 c2) ∧ Good A2 c2 (bodyOf n first q zr) w' ∧ ByT w An cn rb n zr w' ∧ Below W.heap.size W w' := by
  have hh := heap_alloc_new W (.cells #[.slice An 4 cn, .slice A1 4 c1, .slice (some ⟨W0.heap.size, 0, none⟩) 1 1, .slice (some ⟨rb, 0, none⟩) 16 16] 52)
  have h2 := h.alloc (.cells #[.slice An 4 cn, .slice A1 4 c1, .slice (some ⟨W0.heap.size, 0, none⟩) 1 1, .slice (some ⟨rb, 0, none⟩) 16 16] 52)
  have gq : Good (some ⟨W0.heap.size, 0, none⟩) 1 [q] W := (good_new W0 q).below (by rw [World.size_alloc]; exact hW)
  have hp := parts_four hh (bytesL_length _ _) (bytesL_length _ _) rfl hr h2.num (g1.alloc _) (gq.alloc _) h2.room
  refine (concat_many W.heap.size _ 4 25 (bodyOf n first q zr) rfl (by omega) (by simp [allB, bodyOf]) (bodyOf_len _ _ _ _ hr) (by omega) (by omega) _ hp).mono ?_
  rintro e w' ⟨v, rfl, ho, hb⟩
  obtain ⟨A2, c2, rfl, g2⟩ := ho.good
  exact ⟨A2, c2, by rw [bodyOf_len _ _ _ _ hr], g2, h2.below hb, ((Below.refl W.heap.size W).alloc (Nat.le_refl _) _).trans (hb.mono (by simp))⟩
theorem body_is (s : Sec) (l : Nat) (hl : s.data.length = l) : bodyOf s.n s.first ((flagN l s.beg : Nat) : Int) (s.data ++ zeros (16 - l)) = bodyL s := by
  subst hl; simp [bodyOf, bodyL]

/-- copy of bytes that may be none, as a step. -/
theorem step_copyG {ops : Array Oper} {o : Oper} {a : Act} {w : World} {K : Act → World → Prop} {Q : Exit → Act → World → Prop} {E : Prop} (hgd : o.guard = none) (d s : Operand)
    (ho : o.op = .call { callee := .builtin .copy, args := #[d, s], argTypes := #[52, 52] })
    (b f dLen dCap : Nat) (A : Option Addr) (c sLen : Nat) (zs : List Int) (hd : a.eval d = .slice (some ⟨b, f, none⟩) dLen dCap) (hs : a.eval s = .slice A sLen c) (hl : zs.length = sLen) (hle : sLen ≤ dLen) (g : Good A c zs w) (ht : w.there b f sLen)
    (h : ∀ w2, Hid (w2 = w.setCells b f (secC zs)) → K (a.put o.dst (goInt sLen)) w2) :
    if Region.wanted o (yielded ops a.tmps) = true then Oper.wp Try.prog o a w K Q else E := by
  have hw : Region.wanted o (yielded ops a.tmps) = true := by simp [Region.wanted, hgd]
  rcases Nat.eq_zero_or_pos sLen with h0 | h0
  · subst h0
    obtain rfl : zs = [] := List.length_eq_zero_iff.1 hl
    rw [if_pos hw]
    have hrun := run_copy_none (P := Try.prog) w 52 52 o.type 5 (some ⟨b, f, none⟩) A dLen dCap 0 c Try.underlying52 sizeD_u8 (by simp)
    unfold Oper.wp
    simp [execOp, ho, resolve, invoke, builtin, hd, hs, hrun, Result.andThen]
    exact h _ (Lib.hid rfl)
  · obtain ⟨sb, sf, rfl⟩ := g.some (by omega)
    have hc : (secC zs).length = sLen := by rw [secC_len]; exact hl
    refine step_copyT hgd d s 52 52 ho 5 Try.underlying52 sizeD_u8 b f dLen dCap sb sf sLen c hd hs (secC zs) (by rw [hc]; exact (Nat.min_eq_left hle).symm) (range_of_good g) (by rw [hc]; exact ht) (secC_one zs) ?_
    intro w2 e2
    rw [hc]
    exact h w2 e2
/-- An array that begins at nought. -/
theorem wpList_allocZ {P : Program} {ops : Array Oper} {rest : List Oper} {o : Oper} {a : Act} {Q : Exit → Act → World → Prop} {W : World} (hgd : o.guard = none) (ty : TypeId) (ho : o.op = .alloc ty) (Z : Array Value) (n : Nat)
    (hz : (P.info? ty).map (fun i => (i.zero, i.size)) = some (some (.agg Z), n))
    (h : ∀ W1 : World, Hid (W1 = W.alloc (.cells Z ty)) → wpList P ops Q rest (a.put o.dst (.pointer (some ⟨W.heap.size, 0, none⟩))) W1) : wpList P ops Q (o :: rest) a W := by
  obtain ⟨z1, _⟩ := zero_of_info hz
  refine wpList_plain hgd fun K hK => ?_
  unfold Oper.wp
  simp [execOp, ho, Instr.alloc, z1 W, newVar, Value.cells, Result.andThen]
  exact hK _ _ (h _ (Lib.hid rfl))
/-- The room of a sector: nought, then the bytes. -/
theorem room_new (W : World) : Good (some ⟨W.heap.size, 0, none⟩) 16 (zeros 16) (W.alloc (.cells (Array.replicate 16 (Value.int .u8 0)) 103)) ∧ (W.alloc (.cells (Array.replicate 16 (Value.int .u8 0)) 103)).there W.heap.size 0 16 := by
  refine ⟨goodK (fun j v hv => ?_) (by simp) (by simp [zeros]), there_of_cells (heap_alloc_new W _) 16 (by simp)⟩
  rw [cell_of_row _ _ _ _ 103 (0, 0) (heap_alloc_new W _), Nat.zero_add, ← hv]
  simp only [secC, zeros, List.map_replicate, List.getElem?_replicate, Array.getElem?_replicate]
theorem room_put {W W2 : World} {rb : Nat} {zs : List Int} {l : Nat} (hl : zs.length = l) (h16 : l ≤ 16) (g : Good (some ⟨rb, 0, none⟩) 16 (zeros 16) W) (ht : W.there rb 0 16) (hb : rb < W.heap.size) (e : Hid (W2 = W.setCells rb 0 (secC zs))) : Good (some ⟨rb, 0, none⟩) 16 (zs ++ zeros (16 - l)) W2 := by
  subst hl
  have hz := range_of_good g
  have hr := range_store e (by rw [secC_len]; exact fun j hj => ht j (by omega))
  refine goodK (fun j v hv => ?_) (by rw [size_store e]; exact hb) (by simp [zeros]; omega)
  rw [secC_append] at hv
  rcases Nat.lt_or_ge j zs.length with hj | hj
  · rw [List.getElem?_append_left (by rw [secC_len]; exact hj)] at hv
    exact hr j v hv
  · rw [List.getElem?_append_right (by rw [secC_len]; exact hj), secC_len] at hv
    have hz2 := hz j v (by
      rw [← hv]
      simp only [secC, zeros, List.map_replicate, List.getElem?_replicate]
      split <;> split <;> first | rfl | omega)
    rw [e.out, World.cell?_setCells_out rb _ _ W _ (fun _ _ => .inr (by rw [secC_len]; show 0 + zs.length ≤ 0 + j; omega))]
    exact hz2

theorem alloc_drew_below {W W5 : World} {o : Obj} (h : Below (W.alloc o).drew.heap.size (W.alloc o).drew W5) : Below (W.drew.heap.size + 1) (W.drew.alloc o) W5 := by
  have e : (W.alloc o).drew.heap.size = W.drew.heap.size + 1 := World.size_alloc W o
  rw [e] at h
  exact h
structure ByA (w : World) (A : Option Addr) (c l n first : Nat) (b : Bool) (zs : List Int) (W : World) : Prop where
  c0 : W.cell? ⟨w.heap.size, 0, none⟩ = some (.int .i64 n)
  c1 : W.cell? ⟨w.heap.size, 1, none⟩ = some (.int .i64 first)
  c3 : W.cell? ⟨w.heap.size, 3, none⟩ = some (.slice A l c)
  room : Good (some ⟨w.heap.size + 1, 0, none⟩) 16 (zeros 16) W
  there_ : W.there (w.heap.size + 1) 0 16
  data : Good A c zs W
  below : Below w.heap.size w W
  size : w.heap.size + 1 < W.heap.size
theorem byA_new {w W1 : World} {A : Option Addr} {c l n first : Nat} {b : Bool} {zs : List Int} (g : Good A c zs w) (e : Hid (W1 = (w.alloc (.cells #[.int .i64 n, .int .i64 first, .bool b, .slice A l c] 72)).alloc (.cells (Array.replicate 16 (Value.int .u8 0)) 103))) : ByA w A c l n first b zs W1 := by
  rw [e.out]
  have hb : ∀ (j : Nat) (v : Value), (#[Value.int .i64 (n : Int), Value.int .i64 (first : Int), Value.bool b, Value.slice A l c])[j]? = some v → ((w.alloc (.cells #[.int .i64 n, .int .i64 first, .bool b, .slice A l c] 72)).alloc (.cells (Array.replicate 16 (Value.int .u8 0)) 103)).cell? ⟨w.heap.size, j, none⟩ = some v := fun j v hv => by
    rw [World.cell?_alloc_lt _ _ ⟨w.heap.size, j, none⟩ (by simp), cell_of_row _ _ _ _ 72 (0, 0) (heap_alloc_new w _)]
    exact hv
  have hr := room_new (w.alloc (.cells #[.int .i64 n, .int .i64 first, .bool b, .slice A l c] 72))
  rw [World.size_alloc] at hr
  exact ⟨hb 0 _ rfl, hb 1 _ rfl, hb 3 _ rfl, hr.1, hr.2, (g.alloc _).alloc _, ((Below.refl _ _).alloc (Nat.le_refl _) _).alloc (by simp) _, by simp⟩
structure ByC (w : World) (n first : Nat) (v3 : Value) (zr : List Int) (W : World) : Prop where
  c0 : W.cell? ⟨w.heap.size, 0, none⟩ = some (.int .i64 n)
  c1 : W.cell? ⟨w.heap.size, 1, none⟩ = some (.int .i64 first)
  c3 : W.cell? ⟨w.heap.size, 3, none⟩ = some v3
  room : Good (some ⟨w.heap.size + 1, 0, none⟩) 16 zr W
  below : Below w.heap.size w W
  size : w.heap.size + 1 < W.heap.size
theorem ByA.put {w W W2 : World} {A : Option Addr} {c l n first : Nat} {b : Bool} {zs : List Int} (h : ByA w A c l n first b zs W) (hl : zs.length = l) (h16 : l ≤ 16) (e : Hid (W2 = W.setCells (w.heap.size + 1) 0 (secC zs))) : ByC w n first (.slice A l c) (zs ++ zeros (16 - l)) W2 := by
  have hm := moves_store e
  have h0 := hm.block w.heap.size (by have := h.size; omega) (by omega)
  refine ⟨(World.cell?_of_block (a := ⟨w.heap.size, 0, none⟩) h0).trans h.c0, (World.cell?_of_block (a := ⟨w.heap.size, 1, none⟩) h0).trans h.c1, (World.cell?_of_block (a := ⟨w.heap.size, 3, none⟩) h0).trans h.c3, room_put hl h16 h.room h.there_ h.size e, h.below.trans (hm.below (by have := h.size; omega) (fun k hk => by omega)), by rw [size_store e]; exact h.size⟩
theorem ByA.drew {w W : World} {A : Option Addr} {c l n first : Nat} {b : Bool} {zs : List Int} (h : ByA w A c l n first b zs W) : ByA w A c l n first b zs W.drew := ⟨h.c0, h.c1, h.c3, h.room.drewN 1, h.there_, h.data.drewN 1, below_drewN h.below 1, h.size⟩
theorem ByC.below' {w W W2 : World} {n first : Nat} {v3 : Value} {zr : List Int} (h : ByC w n first v3 zr W) (hb : Below W.heap.size W W2) : ByC w n first v3 zr W2 :=
  ⟨(hb.cell (p := ⟨w.heap.size, 0, none⟩) (by have := h.size; show w.heap.size < _; omega)).trans h.c0, (hb.cell (p := ⟨w.heap.size, 1, none⟩) (by have := h.size; show w.heap.size < _; omega)).trans h.c1, (hb.cell (p := ⟨w.heap.size, 3, none⟩) (by have := h.size; show w.heap.size < _; omega)).trans h.c3, h.room.below hb, below_more h.below hb (Nat.le_refl _), Nat.lt_of_lt_of_le h.size hb.size⟩
set_option maxRecDepth 100000 in
set_option maxHeartbeats 1000000 in
theorem bytes_any (s : Sec) (A : Option Addr) (c l : Nat) (hl : s.data.length = l) (ok : okS s) (w : World) (g : Good A c s.data w) :
    Calls Try.prog 46 #[.agg #[.int .i64 s.n, .int .i64 s.first, .bool s.beg, .slice A l c]] w (GivesB (secL s) w) := by
  obtain ⟨n, first, data, beg⟩ := s
  have hl16 : l ≤ 16 := by rw [← hl]; exact ok.len
  have hn : n < 4294967296 := ok.n
  have hf : first < 4294967296 := ok.first
  have HOK := Lib.hid ok
  clear ok
  simp only at *
  have hor := or_flag l hl16
  have HL := Lib.hid hl
  clear hl
  obtain ⟨q, hq⟩ : ∃ q : Int, q = ((flagN l beg : Nat) : Int) := ⟨_, rfl⟩
  have HB := Lib.hid (body_is ⟨n, first, data, beg⟩ l HL.out)
  simp only at HB
  rw [← hq] at HB
  have hzr : (data ++ zeros (16 - l)).length = 16 := by have := HL.out; simp [zeros]; omega
  have HZR := Lib.hid hzr
  clear hzr
  have HP := Lib.hid (fun W1 e => byA_new (W1 := W1) (l := l) (n := n) (first := first) (b := beg) g e)
  clear g
  go_enter Try.func46, Try.ntmps46
  cases beg
  all_goals
    go_wp2_with (refine wpList_allocZ rfl 103 rfl _ 16 info_room ?_; intro W1 e1)
    have hA := HP.out _ e1
    clear e1 HP
    have q3 := hA.c3
    have gd := hA.data
    have ht := hA.there_
    have HPut := Lib.hid (fun W2 e => hA.drew.put (W2 := W2) HL.out hl16 e)
    clear hA
    go_region_held3 (fun w' => w'.cell? ⟨w.heap.size, 3, none⟩ = some (.slice A l c))
      (first | assumption | exact (HPut.out _ e3).c3)
      ((refine step_copyG (by rfl) _ _ (by rfl) (w.heap.size + 1) 0 16 16 A c l data (by rfl) (by rfl) HL.out hl16 (gd.drewN 1) (fun j hj => ht j (by omega)) ?_; intro W3 e3))
    have hC := HPut.out _ e3
    clear HPut e3 q3 gd ht
    have k0 := hC.c0
    go_wp2_with fail
    refine (numberOf_any n hn _).mono ?_
    rintro e W4 ⟨An, cn, rfl, gn, b4⟩
    have hC4 := hC.below' b4
    clear hC k0
    have k1 := hC4.c1
    have T4 : ByT w An cn (w.heap.size + 1) n (data ++ zeros (16 - l)) W4 := ⟨hC4.below, gn, hC4.room⟩
    have T5 : ByT w An cn (w.heap.size + 1) n (data ++ zeros (16 - l)) W4.drew := T4.below (below_drewN (Below.refl _ _) 1)
    have kS : ∀ W W' : World, W.cell? ⟨w.heap.size, 1, none⟩ = some (.int .i64 first) ∧ w.heap.size < W.heap.size → Below W.heap.size W W' → W'.cell? ⟨w.heap.size, 1, none⟩ = some (.int .i64 first) ∧ w.heap.size < W'.heap.size := fun W W' h hb => ⟨(hb.cell (p := ⟨w.heap.size, 1, none⟩) h.2).trans h.1, Nat.lt_of_lt_of_le h.2 hb.size⟩
    have kA : ∀ (W : World) (o : Obj), W.cell? ⟨w.heap.size, 1, none⟩ = some (.int .i64 first) ∧ w.heap.size < W.heap.size → (W.alloc o).cell? ⟨w.heap.size, 1, none⟩ = some (.int .i64 first) ∧ w.heap.size < (W.alloc o).heap.size := fun W o h => kS W _ h ((Below.refl _ _).alloc (Nat.le_refl _) _)
    have s4 : W4.drew.cell? ⟨w.heap.size, 1, none⟩ = some (.int .i64 first) ∧ w.heap.size < W4.drew.heap.size := ⟨k1, by have := hC4.size; show w.heap.size < W4.heap.size; omega⟩
    have s4' : W4.cell? ⟨w.heap.size, 1, none⟩ = some (.int .i64 first) ∧ w.heap.size < W4.heap.size := s4
    clear gn hC4 b4 T4
    try rw [hor]
    first | rw [← hq] | (have hq2 : q = (l : Int) := hq; subst hq2)
    clear hq
    have F1 : ∀ W, Calls Try.prog 53 #[.int .i64 first] W (NumGives first W) := fun W => numberOf_any first hf W
    have F2 : ∀ (A' : Option Addr) (c' : Nat) (W : World), Good A' c' (bodyL _) W → Calls Try.prog 54 #[.slice A' 25 c'] W (GivesB (sealL (bodyL _)) W) := fun A' c' W h => seal_any A' (bodyL _) _ c' 25 (bodyL_length HOK.out) (bodyL_bytes HOK.out) (by omega) rfl W h
    go_wp2_with fail
    go_region_held3 (fun w' => w'.cell? ⟨w.heap.size, 1, none⟩ = some (.int .i64 first) ∧ w.heap.size < w'.heap.size)
      (first | assumption | exact kA _ _ (by assumption) | exact kA _ _ (kA _ _ (by assumption)))
      (first
      | (go_at_call 53; (with_reducible refine (F1 _).mono ?_); rintro e W5 ⟨A5, c5, rfl, g5, b5⟩; have s5 := kS _ _ (by first | assumption | exact kA _ _ (by assumption)) b5)
      | (go_at_call 55; refine (concat_a HZR.out (T5.below b5) A5 c5 g5).mono ?_; rintro e W6 ⟨A6, c6, rfl, g6, T6, b6⟩; have s6 := kS _ _ s5 b6)
      | (go_at_call 54; rw [HB.out] at g6; refine (F2 _ _ _ g6).mono ?_; rintro e W7 ⟨v7, rfl, o7, b7⟩; have s7 := kS _ _ s6 b7)
      | (go_at_call 55; refine (concat_b (W0 := W4.drew) HZR.out (alloc_drew_below b5) ((T5.alloc _).below b5) A5 c5 g5).mono ?_; rintro e W6 ⟨A6, c6, rfl, g6, T6, b6⟩; have s6 := kS _ _ s5 b6))
    all_goals
      clear F1 F2 T5 s4 s4' kS kA
      have n7 := T6.num.below b7
      have bw : Below w.heap.size w W7 := below_more T6.b b7 (Nat.le_refl _)
      have o7' := o7.base T6.b.size
      have HSL := Lib.hid (seal_len HOK.out)
      clear s5 s6 s7 g5 b5 g6 T6 b6 o7 b7
      go_wp2_with (at_builtin; refine wpList_appendB rfl _ _ rfl w.heap.size _ _ rfl o7' _ (bytesL n 4) 4 cn rfl (bytesL_length _ _) n7 (by rw [HSL.out, bytesL_length]; omega) bw.size w bw ?_; intro v8 W8 o8 b8)
      go_ret
      exact ⟨v8, rfl, o8, b8⟩
end Go.Proofs.Ytdmkkfpbgpijjaa
namespace Go.Proofs.Ytdmkkfpbgpijjaa
open Go.RowKit Go.Deep Go.Maps
set_option linter.unusedVariables false

/-! ### as plain mathematics -/
theorem bytes_from (zs : List Int) (hz : isBytes zs) (h4 : zs.length = 4) : bytesL (fromN zs) 4 = zs := by
  have hlt := fromN_lt zs hz
  rw [h4] at hlt
  refine fromN_inj _ _ (bytesL_bytes _ _) hz (by rw [bytesL_length, h4]) ?_
  exact four_back _ (by omega)
def secR16 (z : List Int) : Sec := ⟨fromN (z.take 4), fromN ((z.drop 4).take 4), (z.drop 9).take (min (flagOf z % 128) 16), decide (128 ≤ flagOf z)⟩
theorem flag_lt (z : List Int) (hz : isBytes z) : flagOf z < 256 := by
  unfold flagOf
  cases h : z[8]? with
  | none => simp
  | some x =>
    have := hz x (List.mem_of_getElem? h)
    simp; omega
theorem secR16_ok (z : List Int) (hl : z.length = 32) (hz : isBytes z) : okS (secR16 z) := by
  have h1 := fromN_lt (z.take 4) (hz.take 4)
  have h2 := fromN_lt ((z.drop 4).take 4) ((hz.drop 4).take 4)
  have e1 : (z.take 4).length = 4 := by rw [List.length_take]; omega
  have e2 : ((z.drop 4).take 4).length = 4 := by rw [List.length_take, List.length_drop]; omega
  rw [e1] at h1
  rw [e2] at h2
  refine ⟨by show fromN _ < _; omega, by show fromN _ < _; omega, ?_, ((hz.drop 9).take _)⟩
  show ((z.drop 9).take _).length ≤ 16
  rw [List.length_take]; omega
theorem secR16_len (z : List Int) (hl : z.length = 32) : (secR16 z).data.length = min (flagOf z % 128) 16 := by
  show ((z.drop 9).take _).length = _
  rw [List.length_take, List.length_drop]; omega
theorem write_read (z : List Int) (hl : z.length = 32) (hz : isBytes z) (h : isSec z = true) : secL (secOf z) = z := by
  simp only [isSec, Bool.and_eq_true, decide_eq_true_eq, beq_iff_eq] at h
  obtain ⟨⟨⟨⟨_, h2⟩, h3⟩, h4⟩, h5⟩ := h
  have hf := flag_lt z hz
  have e28 : (z.take 28).length = 28 := by rw [List.length_take]; omega
  have hs : sealL (z.take 25) = z.take 28 := by
    have := open_is h3
    unfold openL at this
    rw [h3, if_pos rfl, e28, List.take_take] at this
    exact this
  have e4 : (z.take 4).length = 4 := by rw [List.length_take]; omega
  have e44 : ((z.drop 4).take 4).length = 4 := by rw [List.length_take, List.length_drop]; omega
  have n1 := bytes_from (z.take 4) (hz.take 4) e4
  have n2 := bytes_from ((z.drop 4).take 4) ((hz.drop 4).take 4) e44
  obtain ⟨x, hx⟩ : ∃ x, z[8]? = some x := ⟨z[8], List.getElem?_eq_getElem (by omega)⟩
  have hxb := hz x (List.mem_of_getElem? hx)
  have hfx : ((flagOf z : Nat) : Int) = x := by unfold flagOf; rw [hx]; simp; omega
  have hd8 : (z.drop 8).take 1 = [x] := by
    have : z.drop 8 = z[8] :: z.drop 9 := by rw [List.drop_eq_getElem_cons (by omega)]
    rw [this]
    have : z[8] = x := by rw [List.getElem?_eq_getElem (by omega)] at hx; injection hx
    simp [this]
  have hk : ((z.drop 9).take (flagOf z % 128)).length = flagOf z % 128 := by rw [List.length_take, List.length_drop]; omega
  have hfl : flagN (flagOf z % 128) (decide (128 ≤ flagOf z)) = flagOf z := by
    unfold flagN
    by_cases h : 128 ≤ flagOf z
    · simp [h]; omega
    · simp [h]; omega
  have hb : bodyL (secOf z) = z.take 25 := by
    unfold bodyL secOf
    simp only
    rw [n1, n2, hk, hfl, hfx, ← h5]
    have t1 : z.take 25 = z.take (((4 + 4) + 1) + (flagOf z % 128) + (16 - flagOf z % 128)) := by congr 1; omega
    rw [t1, List.take_add, List.take_add, List.take_add, List.take_add, hd8]
  unfold secL
  rw [hb, hs]
  show _ ++ bytesL (fromN (z.take 4)) 4 = z
  rw [n1, h2, List.take_append_drop]
theorem readS_eq (z : List Int) (hl : z.length = 32) (hz : isBytes z) : readS z = if secL (secR16 z) = z then some (secR16 z) else none := by
  by_cases h : secL (secR16 z) = z
  · rw [if_pos h]
    conv => lhs; rw [← h]
    exact read_sec (secR16_ok z hl hz)
  · rw [if_neg h]
    unfold readS
    by_cases hi : isSec z = true
    · exfalso
      apply h
      have e : secR16 z = secOf z := by
        have hi2 := hi
        simp only [isSec, Bool.and_eq_true, decide_eq_true_eq, beq_iff_eq] at hi2
        unfold secR16 secOf
        rw [Nat.min_eq_left hi2.1.2]
      rw [e]
      exact write_read z hl hz hi
    · simp [hi]
/-- A store of so many cells, as a step. -/
theorem step_storeT {P : Program} {ops : Array Oper} {o : Oper} {a : Act} {w : World} {K : Act → World → Prop} {Q : Exit → Act → World → Prop} {E : Prop} (hgd : o.guard = none) (ty : TypeId) (x y : Operand) (ho : o.op = .store ty x y)
    (b f : Nat) (cs : List Value) (hx : a.eval x = .pointer (some ⟨b, f, none⟩)) (hy : a.eval y = .agg cs.toArray) (ht : w.there b f cs.length) (hi : (P.info? ty).map (·.size) = some cs.length) (h1 : ∀ v ∈ cs, v.oneCell' = true)
    (h : ∀ w2, Hid (w2 = w.setCells b f cs) → K (a.put o.dst undef) w2) : if Region.wanted o (yielded ops a.tmps) = true then Oper.wp P o a w K Q else E := by
  have hw : Region.wanted o (yielded ops a.tmps) = true := by simp [Region.wanted, hgd]
  rw [if_pos hw]
  exact wp_store_mid ty x y ho b f cs.toArray hx hy (by simpa using ht) (by simpa using hi) (all_oneCell_toArray h1) (by simpa using h _ (Lib.hid rfl))
theorem there_below {W W' : World} {B b o n : Nat} (h : W.there b o n) (hb : Below B W W') (hlt : b < B) : W'.there b o n := there_of_block' (hb.block b hlt) h
set_option maxRecDepth 100000 in
theorem size_secV : (Try.prog.info? 72).map (·.size) = some 4 := by kernel_rfl
/-- A sector in four cells. -/
def secV (n first : Nat) (beg : Bool) (A : Option Addr) (l c : Nat) : List Value := [.int .i64 n, .int .i64 first, .bool beg, .slice A l c]
theorem secV_one (n first : Nat) (beg : Bool) (A : Option Addr) (l c : Nat) : ∀ v ∈ secV n first beg A l c, v.oneCell' = true := by
  intro v hv
  simp only [secV, List.mem_cons, List.not_mem_nil, or_false] at hv
  rcases hv with rfl | rfl | rfl | rfl <;> rfl
theorem there_newV (V : World) : (V.alloc (.cells #[.int .i64 0, .int .i64 0, .bool false, .slice none 0 0] 72)).there V.heap.size 0 4 := there_of_cells (heap_alloc_new V _) 4 (by simp)
/-- The four cells of a new sector lie as they were laid. -/
structure NewV (B : Nat) (W : World) : Prop where
  c0 : W.cell? ⟨B, 0, none⟩ = some (.int .i64 0)
  c1 : W.cell? ⟨B, 1, none⟩ = some (.int .i64 0)
  c2 : W.cell? ⟨B, 2, none⟩ = some (.bool false)
  c3 : W.cell? ⟨B, 3, none⟩ = some (.slice none 0 0)
  f0 : W.frozen? ⟨B, 0, none⟩ = false
  f1 : W.frozen? ⟨B, 1, none⟩ = false
  f2 : W.frozen? ⟨B, 2, none⟩ = false
  f3 : W.frozen? ⟨B, 3, none⟩ = false
  lt : B < W.heap.size
theorem newV_of {W : World} {B : Nat} (hb : W.heap[B]? = some (.cells #[.int .i64 0, .int .i64 0, .bool false, .slice none 0 0] 72)) : NewV B W := by
  have hc : ∀ j, W.cell? ⟨B, j, none⟩ = _ := fun j => cell_of_row _ _ j _ 72 (0, 0) hb
  have hf : ∀ j, W.frozen? ⟨B, j, none⟩ = false := fun j => by simp [World.frozen?, hb]
  exact ⟨(hc 0).trans rfl, (hc 1).trans rfl, (hc 2).trans rfl, (hc 3).trans rfl, hf 0, hf 1, hf 2, hf 3, (Array.getElem?_eq_some_iff.1 hb).1⟩
theorem newV_new (V : World) : NewV V.heap.size (V.alloc (.cells #[.int .i64 0, .int .i64 0, .bool false, .slice none 0 0] 72)) := newV_of (heap_alloc_new V _)
theorem NewV.block {B : Nat} {W W' : World} (h : NewV B W) (hb : W'.heap[B]? = W.heap[B]?) (hs : W.heap.size ≤ W'.heap.size) : NewV B W' :=
  ⟨(World.cell?_of_block (a := ⟨B, 0, none⟩) hb).trans h.c0, (World.cell?_of_block (a := ⟨B, 1, none⟩) hb).trans h.c1, (World.cell?_of_block (a := ⟨B, 2, none⟩) hb).trans h.c2, (World.cell?_of_block (a := ⟨B, 3, none⟩) hb).trans h.c3,
    (World.frozen?_of_block (a := ⟨B, 0, none⟩) hb).trans h.f0, (World.frozen?_of_block (a := ⟨B, 1, none⟩) hb).trans h.f1, (World.frozen?_of_block (a := ⟨B, 2, none⟩) hb).trans h.f2, (World.frozen?_of_block (a := ⟨B, 3, none⟩) hb).trans h.f3, Nat.lt_of_lt_of_le h.lt hs⟩
theorem NewV.below {B : Nat} {W W' : World} (h : NewV B W) (hb : Below W.heap.size W W') : NewV B W' := h.block (hb.block B h.lt) hb.size
theorem NewV.drew {B : Nat} {W : World} (h : NewV B W) : NewV B W.drew := ⟨h.c0, h.c1, h.c2, h.c3, h.f0, h.f1, h.f2, h.f3, h.lt⟩
theorem NewV.alloc {B : Nat} {W : World} (h : NewV B W) (o : Obj) : NewV B (W.alloc o) := h.below ((Below.refl _ _).alloc (Nat.le_refl _) _)
theorem cutW {G R : World → Prop} {W : World} (h : R W) (H : ∀ W3, R W3 → G W3) : G W := H W h
theorem newV_below {V W' : World} (hb : Below (V.alloc (.cells #[.int .i64 0, .int .i64 0, .bool false, .slice none 0 0] 72)).heap.size (V.alloc (.cells #[.int .i64 0, .int .i64 0, .bool false, .slice none 0 0] 72)) W') : NewV V.heap.size W' := (newV_new V).below hb
theorem newV_drew {V W' : World} (hb : Below (V.alloc (.cells #[.int .i64 0, .int .i64 0, .bool false, .slice none 0 0] 72)).drew.heap.size (V.alloc (.cells #[.int .i64 0, .int .i64 0, .bool false, .slice none 0 0] 72)).drew W') : NewV V.heap.size W' :=
  NewV.below (W := (V.alloc (.cells #[.int .i64 0, .int .i64 0, .bool false, .slice none 0 0] 72)).drew) ⟨(newV_new V).c0, (newV_new V).c1, (newV_new V).c2, (newV_new V).c3, (newV_new V).f0, (newV_new V).f1, (newV_new V).f2, (newV_new V).f3, (newV_new V).lt⟩ hb
/-- Bytes are a log's sector with a number. -/
def readsB (z : List Int) : Bool := decide ((secR16 z).n ≠ 0) && decide (secL (secR16 z) = z)
theorem bits_count (x : Nat) (h : x < 256) : bits .andNot .u8 (x : Int) 128 = ((x % 128 : Nat) : Int) ∧ (bits .and .u8 (x : Int) 128 != 0) = decide (128 ≤ x) := by
  have : ∀ k : Fin 256, bits .andNot .u8 ((k.1 : Nat) : Int) 128 = ((k.1 % 128 : Nat) : Int) ∧ (bits .and .u8 ((k.1 : Nat) : Int) 128 != 0) = decide (128 ≤ k.1) := by decide +kernel
  exact this ⟨x, h⟩
def ReadSecSays (z : List Int) (b off c : Nat) (w : World) (e : Ending) (w' : World) : Prop :=
  Below w.heap.size w w' ∧ ((readsB z = true ∧ e = .returned (.tuple #[.agg #[.int .i64 (secR16 z).n, .int .i64 (secR16 z).first, .bool (secR16 z).beg, .slice (some ⟨b, off + 9, none⟩) (secR16 z).data.length (c - 9)], .bool true])) ∨
    (readsB z = false ∧ e = .returned (.tuple #[.agg #[.int .i64 0, .int .i64 0, .bool false, .slice none 0 0], .bool false])))
/-- What holds behind the struct's literal. -/
structure RdT (w : World) (b off c sb : Nat) (z : List Int) (n first k : Nat) (beg : Bool) (W : World) : Prop where
  g : Good (some ⟨b, off, none⟩) c z W
  bel : Below w.heap.size w W
  row : W.rangeAt sb 0 (secV n first beg (some ⟨b, off + 9, none⟩) k (c - 9))
  lt : sb < W.heap.size
  gt : w.heap.size < sb
  res : NewV w.heap.size W
theorem RdT.below {w : World} {b off c sb : Nat} {z : List Int} {n first k : Nat} {beg : Bool} {W W' : World} (h : RdT w b off c sb z n first k beg W) (hb : Below W.heap.size W W') : RdT w b off c sb z n first k beg W' :=
  ⟨h.g.below hb, below_more h.bel hb (Nat.le_refl _), rangeAt_of_block' (hb.block sb h.lt) h.row, Nat.lt_of_lt_of_le h.lt hb.size, h.gt, h.res.below hb⟩
theorem rdT_set {w : World} {b off c sb : Nat} {z : List Int} {n first k : Nat} {beg : Bool} {W W3 : World} (hg : Good (some ⟨b, off, none⟩) c z W) (hb : Below w.heap.size w W) (hbl : b < w.heap.size) (hv : NewV sb W) (gt : w.heap.size < sb) (res : NewV w.heap.size W) (e : Hid (W3 = W.setCells sb 0 (secV n first beg (some ⟨b, off + 9, none⟩) k (c - 9)))) : RdT w b off c sb z n first k beg W3 := by
  have hm := moves_store e
  have ht : W.there sb 0 4 := fun j hj => by
    match j, hj with
    | 0, _ => exact ⟨by rw [hv.c0]; rfl, hv.f0⟩
    | 1, _ => exact ⟨by rw [hv.c1]; rfl, hv.f1⟩
    | 2, _ => exact ⟨by rw [hv.c2]; rfl, hv.f2⟩
    | 3, _ => exact ⟨by rw [hv.c3]; rfl, hv.f3⟩
  have hbk : W3.heap[b]? = W.heap[b]? := hm.block b (Nat.lt_of_lt_of_le hbl hb.size) (by show ¬ b = sb; omega)
  refine ⟨⟨?_, hg.2⟩, hb.trans (hm.below hb.size (fun k hk => by subst hk; omega)), range_store e ht, by rw [size_store e]; exact hv.lt, gt, res.block (hm.block _ res.lt (by show ¬ w.heap.size = sb; omega)) hm.size⟩
  intro h0
  obtain ⟨b', off', e', hlt, hc⟩ := hg.1 h0
  cases e'
  exact ⟨b, off, rfl, by rw [size_store e]; exact hlt, fun j hj => (World.cell?_of_block (a := ⟨b, off + j, none⟩) hbk).trans (hc j hj)⟩
theorem rdT_new {w : World} {b off c : Nat} {z : List Int} {n first k : Nat} {beg : Bool} {W : World} (hg : Good (some ⟨b, off, none⟩) c z W) (hb : Below w.heap.size w W) (res : NewV w.heap.size W) : RdT w b off c W.heap.size z n first k beg (W.alloc (.cells (secV n first beg (some ⟨b, off + 9, none⟩) k (c - 9)).toArray 72)) := by
  have hb1 : Below W.heap.size W (W.alloc (.cells (secV n first beg (some ⟨b, off + 9, none⟩) k (c - 9)).toArray 72)) := (Below.refl _ _).alloc (Nat.le_refl _) _
  refine ⟨hg.below hb1, below_more hb hb1 (Nat.le_refl _), fun j v hv => ?_, by simp, res.lt, res.below hb1⟩
  rw [Nat.zero_add, cell_of_row _ _ j _ 72 (0, 0) (heap_alloc_new W _)]
  simpa using hv
theorem RdT.cells {w : World} {b off c sb : Nat} {z : List Int} {n first k : Nat} {beg : Bool} {W : World} (h : RdT w b off c sb z n first k beg W) : W.cell? ⟨sb, 0, none⟩ = some (.int .i64 n) ∧ W.cell? ⟨sb, 1, none⟩ = some (.int .i64 first) ∧ W.cell? ⟨sb, 2, none⟩ = some (.bool beg) ∧ W.cell? ⟨sb, 3, none⟩ = some (.slice (some ⟨b, off + 9, none⟩) k (c - 9)) :=
  ⟨h.row 0 _ rfl, h.row 1 _ rfl, h.row 2 _ rfl, h.row 3 _ rfl⟩
set_option maxRecDepth 100000 in
set_option maxHeartbeats 1000000 in
theorem readSector_any (b off c : Nat) (z : List Int) (hl : z.length = 32) (hz : isBytes z) (w : World) (g : Good (some ⟨b, off, none⟩) c z w) :
    Calls Try.prog 40 #[.slice (some ⟨b, off, none⟩) 32 c] w (ReadSecSays z b off c w) := by
  have ok := Lib.hid (secR16_ok z hl hz)
  have hdl := Lib.hid (secR16_len z hl)
  obtain ⟨x, hx⟩ : ∃ x : Nat, flagOf z = x := ⟨_, rfl⟩
  have hx256 : x < 256 := by rw [← hx]; exact flag_lt z hz
  have hc32 : 32 ≤ c := by have := g.2.1; omega
  obtain ⟨b', off', e', hbl, hcell⟩ := g.1 (by omega)
  cases e'
  have k8 : w.cell? ⟨b, off + 8, none⟩ = some (.int .u8 x) := by
    rw [hcell 8 (by omega)]
    have hzb := hz z[8] (List.getElem_mem _)
    rw [← hx]
    unfold flagOf
    rw [List.getElem?_eq_getElem (by omega)]
    simp; omega
  clear hcell
  obtain ⟨m, hm⟩ : ∃ m : Nat, x % 128 = m := ⟨_, rfl⟩
  have hb := bits_count x hx256
  rw [hm] at hb
  have hb2 := hb.1
  have hb3 := hb.2
  clear hb
  have hbeg := Lib.hid (show (secR16 z).beg = decide (128 ≤ x) by rw [← hx]; rfl)
  rw [hx, hm] at hdl
  have hN1 := fun W (h : Good (some ⟨b, off, none⟩) c z W) => readNumber_any b off c 32 (secR16 z).n z hl (by omega) hz rfl W h
  have hN2 := fun W (h : Good (some ⟨b, off, none⟩) c z W) => readNumber_any b (off + 4) (c - 4) 28 (secR16 z).first (z.drop 4) (by rw [List.length_drop]; omega) (by omega) (hz.drop 4) rfl W (h.drop 4 (by omega))
  have hk16 : min m 16 ≤ 16 := by omega
  obtain ⟨k, hk⟩ : ∃ k, min m 16 = k := ⟨_, rfl⟩
  rw [hk] at hk16 hdl
  have hminI : min (m : Int) 16 = (k : Int) := by omega
  have g9 := Lib.hid (show ∀ W, Good (some ⟨b, off, none⟩) c z W → Good (some ⟨b, off + 9, none⟩) (c - 9) (secR16 z).data W from fun W h => (h.drop 9 (by omega)).take _)
  unfold ReadSecSays readsB
  generalize hs : secR16 z = s at *
  clear hs
  have hci : (9 : Int) + k ≤ c := by omega
  have hci2 : (4 : Int) ≤ c := by omega
  have hE := fun (W : World) h => bytes_any s (some ⟨b, off + 9, none⟩) (c - 9) k hdl.out ok.out W h
  have hEq := fun (A' : Option Addr) (c' : Nat) (W : World) (o : Bool) (ho : (z == secL s) = o) (h1 : Good (some ⟨b, off, none⟩) c z W) (h2 : Good A' c' (secL s) W) => equal_any (some ⟨b, off, none⟩) A' z (secL s) c c' 32 32 o hl (secL_length ok.out) hz (secL_bytes ok.out) ho W h1 h2
  have hm16 : (m : Int) ≤ 16 ∧ k = m ∨ (16 : Int) < m ∧ k = 16 := by omega
  have hs1 : (9 : Int) ≤ 9 + k := by omega
  have hs2 : ¬ ((9 : Int) = c) := by omega
  have hs3 : (9 : Int) ≤ c := by omega
  have hs4 : IntKind.i64.wrap (9 + (k : Int)) = 9 + k := IntWalk.i64_in _ (by omega)
  have hs5 : ((9 : Int) + k).toNat - 9 = k := by omega
  have hc4 : ¬ (c = 4) := by omega
  have hc9 : ¬ (c = 9) := by omega
  have HHL := Lib.hid hl
  have HHZ := Lib.hid hz
  have hm128 : m < 128 := by omega
  have hc25 : (25 : Int) ≤ c := by omega
  have hc25n : 25 ≤ c := by omega
  clear hl hz hk hminI hm hx
  have kT : ∀ W W' : World, Good (some ⟨b, off, none⟩) c z W ∧ Below w.heap.size w W → Below W.heap.size W W' → Good (some ⟨b, off, none⟩) c z W' ∧ Below w.heap.size w W' := fun W W' h hb => ⟨h.1.below hb, below_more h.2 hb (Nat.le_refl _)⟩
  have kA : ∀ (W : World) (o : Obj), Good (some ⟨b, off, none⟩) c z W ∧ Below w.heap.size w W → Good (some ⟨b, off, none⟩) c z (W.alloc o) ∧ Below w.heap.size w (W.alloc o) := fun W o h => kT W _ h ((Below.refl _ _).alloc (Nat.le_refl _) _)
  have kD : ∀ (W : World), Good (some ⟨b, off, none⟩) c z W ∧ Below w.heap.size w W → Good (some ⟨b, off, none⟩) c z W.drew ∧ Below w.heap.size w W.drew := fun W h => kT W _ h (below_drewN (Below.refl _ _) 1)
  have t0 : Good (some ⟨b, off, none⟩) c z w ∧ Below w.heap.size w w := ⟨g, Below.refl _ _⟩
  clear g
  go_enter Try.func40, Try.ntmps40
  rcases hm16 with ⟨hm1, rfl⟩ | ⟨hm1, hk16e⟩
  all_goals
    (try (have HK := Lib.hid hk16e; clear hk16e))
    go_wp2_with fail
    (try rw [show Value.int IntKind.i64 16 = Value.int IntKind.i64 (k : Int) by rw [HK.out]; rfl])
    have t1 := kA _ (.cells #[.int .i64 0, .int .i64 0, .bool false, .slice none 0 0] 72) t0
    have cz := Lib.hid (newV_new w)
    have hsz := Lib.hid (show (w.alloc (.cells #[.int .i64 0, .int .i64 0, .bool false, .slice none 0 0] 72)).heap.size = w.heap.size + 1 from World.size_alloc _ _)
    generalize w.alloc (.cells #[.int .i64 0, .int .i64 0, .bool false, .slice none 0 0] 72) = W0 at *
    go_region_held3 (fun _ => True) (exact trivial) (first
      | (go_at_call_of 50 (some (⟨b, off, none⟩ : Addr)); (with_reducible refine (hN1 _ (by first | exact (kD _ t1).1 | exact (kD _ (kA _ _ t1)).1)).mono ?_); rintro e W1 ⟨rfl, b1⟩; try (have n1 := newV_drew b1))
      | (go_at_call 50; (with_reducible refine (hN2 _ (by first | exact (kT _ _ (kD _ t1) b1).1 | exact (kA _ _ (kT _ _ (kD _ t1) b1)).1 | exact (kT _ _ (kD _ (kA _ _ t1)) b1).1)).mono ?_); rintro e W2 ⟨rfl, b2⟩; (first | (have n2 := n1.below b2) | (have n2 := newV_below b2) | skip); try (have z0 := n2.c0; have z1 := n2.c1; have z2 := n2.c2; have z3 := n2.c3; have f0 := n2.f0; have f1 := n2.f1; have f2 := n2.f2; have f3 := n2.f3)))
    all_goals
      have T2 : (Good (some ⟨b, off, none⟩) c z W2 ∧ Below w.heap.size w W2) ∧ NewV w.heap.size W2 := by
        first
        | exact ⟨kT _ _ (kT _ _ (kD _ t1) b1) b2, (cz.out.drew.below b1).below b2⟩
        | exact ⟨kT _ _ (kA _ _ (kT _ _ (kD _ t1) b1)) b2, ((cz.out.drew.below b1).alloc _).below b2⟩
        | exact ⟨kT _ _ (kT _ _ (kD _ (kA _ _ t1)) b1) b2, ((cz.out.alloc _).drew.below b1).below b2⟩
      first
      | refine cutW (rdT_set (n := s.n) (first := s.first) (beg := decide (128 ≤ x)) T2.1.1 T2.1.2 hbl n2 (by first | exact (cz.out.drew.below b1).lt | exact cz.out.lt) T2.2 (Lib.hid rfl)) ?_
      | refine cutW (rdT_new (n := s.n) (first := s.first) (beg := decide (128 ≤ x)) T2.1.1 T2.1.2 T2.2) ?_
      intro W3 hR
      obtain ⟨q0, q1, q2, q3⟩ := hR.cells
      by_cases hn0 : s.n = 0
      · have hz0 : ((s.n : Int) == 0) = true := by simp [hn0]
        have HN := Lib.hid hn0
        have r0 := hR.res.c0
        have r1 := hR.res.c1
        have r2 := hR.res.c2
        have r3 := hR.res.c3
        have p0 := hR.res.f0
        have p1 := hR.res.f1
        have p2 := hR.res.f2
        have p3 := hR.res.f3
        have hbel := hR.bel
        clear hn0 hN1 hN2 hE hEq kT kA kD t0 t1 T2 hR
        go_wp2
        refine bodyPost_ret (v := .tuple #[.agg #[.int .i64 0, .int .i64 0, .bool false, .slice none 0 0], .bool false]) ?_ rfl ⟨?_, .inr ⟨by simp [HN.out], rfl⟩⟩
        · simp [results, Try.results40, go_sem, r0, r1, r2, r3]
        · repeat first | with_reducible exact hbel | with_reducible refine below_sc ?_ (Nat.le_refl _) _ | with_reducible refine Below.drew ?_
      · have hz0 : ((s.n : Int) == 0) = false := by simp; exact hn0
        have HN := Lib.hid hn0
        clear hn0 hN1 hN2 kT kA kD t0 t1 T2
        have cE := hE _ (g9.out _ hR.g)
        clear hE
        rw [hbeg.out] at cE
        go_wp2_with fail
        refine cE.mono ?_
        rintro e W4 ⟨v4, rfl, o4, b4⟩
        have hR4 := hR.below b4
        obtain ⟨A4, c4, rfl, g4⟩ := o4.good
        rw [secL_length ok.out]
        obtain ⟨y0, y1, y2, y3⟩ := hR4.cells
        have r0 := hR4.res.c0
        have r1 := hR4.res.c1
        have r2 := hR4.res.c2
        have r3 := hR4.res.c3
        have p0 := hR4.res.f0
        have p1 := hR4.res.f1
        have p2 := hR4.res.f2
        have p3 := hR4.res.f3
        have hbel := hR4.bel
        have G4 := Lib.hid g4
        have GZ := Lib.hid hR4.g
        clear q0 q1 q2 q3 cE o4 b4 g4 hR hR4
        cases ho : (z == secL s)
        · have cQ := hEq A4 c4 W4 false ho GZ.out G4.out
          have HO := Lib.hid ho
          clear hEq ho
          go_wp2_with fail
          refine cQ.mono ?_
          rintro e w' ⟨rfl, rfl⟩
          go_wp2
          refine bodyPost_ret (v := .tuple #[.agg #[.int .i64 0, .int .i64 0, .bool false, .slice none 0 0], .bool false]) ?_ rfl ⟨?_, .inr ⟨?_, rfl⟩⟩
          · simp [results, Try.results40, go_sem, r0, r1, r2, r3]
          · repeat first | with_reducible exact hbel | with_reducible refine below_sc ?_ (Nat.le_refl _) _ | with_reducible refine Below.drew ?_
          · have := HO.out
            simp only [beq_eq_false_iff_ne] at this
            simp only [Bool.and_eq_false_iff, decide_eq_false_iff_not]
            exact .inr (fun e => this e.symm)
        · have cQ := hEq A4 c4 W4 true ho GZ.out G4.out
          have HO := Lib.hid ho
          clear hEq ho
          go_wp2_with fail
          refine cQ.mono ?_
          rintro e w' ⟨rfl, rfl⟩
          go_wp2
          refine bodyPost_ret (v := .tuple #[.agg #[.int .i64 s.n, .int .i64 s.first, .bool (decide (128 ≤ x)), .slice (some ⟨b, off + 9, none⟩) k (c - 9)], .bool true]) ?_ rfl ⟨?_, .inl ⟨?_, by rw [hbeg.out, hdl.out]⟩⟩
          · simp [results, Try.results40, go_sem, r0, r1, r2, r3]
          · repeat first | with_reducible exact hbel | with_reducible refine below_sc ?_ (Nat.le_refl _) _ | with_reducible refine Below.drew ?_
          · have := HO.out
            simp only [beq_iff_eq] at this
            simp [HN.out, ← this]
end Go.Proofs.Ytdmkkfpbgpijjaa
namespace Go.Proofs.Ytdmkkfpbgpijjaa
set_option linter.unusedVariables false

def zS : Sec := ⟨0, 0, [], false⟩
theorem zS_ok : okS zS := ⟨by decide, by decide, by decide, fun z hz => by cases hz⟩
/-- What stands at a place; nought, where it is no log's. -/
def thereS (S : List (List Int)) (i : Nat) : Sec := match readS (secAt S i) with
  | some s => if 1 ≤ s.n ∧ placeOf S.length s.n = i then s else zS
  | none => zS
theorem thereS_n (S : List (List Int)) (i : Nat) : (thereS S i).n = counts S i := by
  unfold thereS counts
  cases readS (secAt S i) with
  | none => rfl
  | some s => simp only; split <;> rfl
theorem secN_there (S : List (List Int)) (n : Nat) (h1 : 1 ≤ n) : secN S n = if (thereS S (placeOf S.length n)).n = n then some (thereS S (placeOf S.length n)) else none := by
  unfold secN thereS
  cases readS (secAt S (placeOf S.length n)) with
  | none => simp only; rw [if_neg (by show ¬ (0 = n); omega)]
  | some s =>
    simp only
    by_cases h : s.n = n
    · have hc : 1 ≤ s.n ∧ placeOf S.length s.n = placeOf S.length n := ⟨by omega, by rw [h]⟩
      simp only [if_pos h, if_pos hc]
    · rw [if_neg h]
      by_cases hc : 1 ≤ s.n ∧ placeOf S.length s.n = placeOf S.length n
      · simp only [if_pos hc, if_neg h]
      · simp only [if_neg hc]
        rw [if_neg (by show ¬ (0 = n); omega)]
def thereL (S : List (List Int)) : List Sec := (List.range S.length).map (thereS S)
theorem thereL_len (S : List (List Int)) : (thereL S).length = S.length := by simp [thereL]
theorem thereL_at (S : List (List Int)) (i : Nat) (h : i < S.length) : (thereL S)[i]? = some (thereS S i) := by simp [thereL, h]

/-- The sector with the greatest number, of the first k. -/
def lastL (ss : List Sec) : Sec := ss.foldl (fun a s => if a.n < s.n then s else a) zS
theorem lastL_snoc (ss : List Sec) (s : Sec) : lastL (ss ++ [s]) = if (lastL ss).n < s.n then s else lastL ss := by
  unfold lastL; rw [List.foldl_append]; rfl
theorem lastL_from (ss : List Sec) : lastL ss = zS ∨ lastL ss ∈ ss := by
  suffices h : ∀ rs : List Sec, lastL rs.reverse = zS ∨ lastL rs.reverse ∈ rs.reverse by
    have := h ss.reverse
    rwa [List.reverse_reverse] at this
  intro rs
  induction rs with
  | nil => exact .inl rfl
  | cons s rs ih =>
    rw [List.reverse_cons, lastL_snoc]
    split
    · exact .inr (by simp)
    · rcases ih with h | h
      · exact .inl h
      · exact .inr (List.mem_append_left _ h)
theorem lastL_there (S : List (List Int)) : ∀ k, k ≤ S.length → (lastL ((thereL S).take k)).n = lastUpto S k := by
  intro k
  induction k with
  | zero => intro _; rfl
  | succ k ih =>
    intro hk
    have hl : k < (thereL S).length := by rw [thereL_len]; omega
    have e : (thereL S)[k] = thereS S k := by simp [thereL]
    rw [List.take_succ_eq_append_getElem hl, lastL_snoc, e, lastUpto]
    have h1 := ih (by omega)
    have h2 := thereS_n S k
    split <;> omega
theorem lastL_n (S : List (List Int)) : (lastL (thereL S)).n = lastN S := by
  have := lastL_there S S.length (Nat.le_refl _)
  rw [List.take_of_length_le (by rw [thereL_len]; exact Nat.le_refl _)] at this
  exact this
theorem secN_last (S : List (List Int)) (h : lastN S ≠ 0) : secN S (lastN S) = some (lastL (thereL S)) := by
  have hn := lastL_n S
  rcases lastL_from (thereL S) with e | e
  · rw [e] at hn; exact absurd hn.symm h
  · obtain ⟨i, hi⟩ := List.mem_iff_getElem?.1 e
    have hil : i < S.length := by
      rcases Nat.lt_or_ge i S.length with x | x
      · exact x
      · rw [List.getElem?_eq_none (by rw [thereL_len]; exact x)] at hi; cases hi
    rw [thereL_at S i hil] at hi
    injection hi with hi
    have hp : placeOf S.length (lastN S) = i := by
      have hn2 : (thereS S i).n = lastN S := by rw [hi]; exact hn
      unfold thereS at hn2
      cases hr : readS (secAt S i) with
      | none => rw [hr] at hn2; exact absurd hn2.symm h
      | some s =>
        rw [hr] at hn2
        simp only at hn2
        split at hn2
        · rename_i hc; rw [← hn2]; exact hc.2
        · exact absurd hn2.symm h
    rw [secN_there S _ (by omega), hp, hi, if_pos hn]

/-- The k sectors from number f on, if they are there. -/
def cntF (ss : List Sec) (f : Nat) : Nat → Option (List Sec)
  | 0 => some []
  | k + 1 => match cntF ss f k with
    | some cs => if (ss[placeOf ss.length (f + k)]?.getD zS).n = f + k then some (cs ++ [ss[placeOf ss.length (f + k)]?.getD zS]) else none
    | none => none
theorem cntF_more (ss : List Sec) (f k : Nat) (h : cntF ss f k = none) : ∀ j, cntF ss f (k + j) = none := by
  intro j
  induction j with
  | zero => exact h
  | succ j ih => rw [← Nat.add_assoc, cntF, ih]
theorem cntF_len (ss : List Sec) (f : Nat) : ∀ k cs, cntF ss f k = some cs → cs.length = k := by
  intro k
  induction k with
  | zero => intro cs h; injection h with h; rw [← h]; rfl
  | succ k ih =>
    intro cs h
    rw [cntF] at h
    cases hk : cntF ss f k with
    | none => rw [hk] at h; cases h
    | some c0 =>
      rw [hk] at h
      simp only at h
      split at h
      · injection h with h; rw [← h, List.length_append, ih c0 hk]; rfl
      · cases h
theorem cntF_at (ss : List Sec) (f : Nat) : ∀ k cs, cntF ss f k = some cs → ∀ i, i < k → (ss[placeOf ss.length (f + i)]?.getD zS).n = f + i := by
  intro k
  induction k with
  | zero => intro cs h i hi; omega
  | succ k ih =>
    intro cs h i hi
    rw [cntF] at h
    cases hk : cntF ss f k with
    | none => rw [hk] at h; cases h
    | some c0 =>
      rw [hk] at h
      simp only at h
      split at h
      · rename_i hn
        rcases Nat.lt_or_ge i k with x | x
        · exact ih c0 hk i x
        · obtain rfl : i = k := by omega
          exact hn
      · cases h
theorem cntF_mem (ss : List Sec) (f : Nat) (hf : 1 ≤ f) : ∀ k cs, cntF ss f k = some cs → ∀ c ∈ cs, c ∈ ss := by
  intro k
  induction k with
  | zero => intro cs h c hc; injection h with h; rw [← h] at hc; cases hc
  | succ k ih =>
    intro cs h c hc
    rw [cntF] at h
    cases hk : cntF ss f k with
    | none => rw [hk] at h; cases h
    | some c0 =>
      rw [hk] at h
      simp only at h
      split at h
      · rename_i hn
        injection h with h
        rw [← h, List.mem_append] at hc
        rcases hc with hc | hc
        · exact ih c0 hk c hc
        · rw [List.mem_singleton] at hc
          rw [hc]
          cases hx : ss[placeOf ss.length (f + k)]? with
          | none => rw [hx] at hn; exact absurd hn (by show ¬ (0 = f + k); omega)
          | some x => exact List.mem_of_getElem? hx
      · cases h
theorem cntF_le (ss : List Sec) (f k : Nat) (cs : List Sec) (hN : 0 < ss.length) (hf : 1 ≤ f) (h : cntF ss f k = some cs) : k ≤ ss.length := by
  rcases Nat.lt_or_ge ss.length k with x | x
  · have h0 := cntF_at ss f k cs h 0 (by omega)
    have h1 := cntF_at ss f k cs h ss.length x
    have e : placeOf ss.length (f + ss.length) = placeOf ss.length (f + 0) := by
      unfold placeOf
      rw [show f + ss.length - 1 = f + 0 - 1 + ss.length by omega, Nat.add_mod_right]
    rw [e] at h1
    omega
  · exact x
theorem secsFrom_there (S : List (List Int)) (f : Nat) (hf : 1 ≤ f) (hN : 0 < S.length) : ∀ k, secsFrom S f k = cntF (thereL S) f k := by
  intro k
  induction k with
  | zero => rfl
  | succ k ih =>
    have hp : placeOf S.length (f + k) < S.length := placeOf_lt _ _ hN
    rw [secsFrom, cntF, ih, secN_there S (f + k) (by omega), thereL_len, thereL_at S _ hp, Option.getD_some]
    cases cntF (thereL S) f k with
    | none => rfl
    | some cs =>
      by_cases h : (thereS S (placeOf S.length (f + k))).n = f + k
      · simp only [h, if_true]
      · simp only [h, if_false]

/-- The rows: the first sector begins one, whatever it tells. -/
def rowsP : List Sec → List (List Int)
  | [] => []
  | s :: ss => rowsAcc s.data ss
def tellP (cs : List Sec) : Option (List RecD) := if (rowsP cs).all rowOK then some ((rowsP cs).flatMap recsL) else none
theorem tellP_eq (cs : List Sec) : tellP cs = tellR cs := by
  unfold tellP tellR
  cases cs with
  | nil => simp [rowsP, rowsAcc, row_nil.1, row_nil.2]
  | cons s cs =>
    cases hb : s.beg
    · have e : rowsAcc [] (s :: cs) = rowsP (s :: cs) := by simp [rowsAcc, rowsP, hb]
      rw [e]
    · have e : rowsAcc [] (s :: cs) = [] :: rowsP (s :: cs) := by simp [rowsAcc, rowsP, hb]
      rw [e, List.all_cons, row_nil.2, Bool.true_and, List.flatMap_cons, row_nil.1, List.nil_append]
theorem rowsAcc_plain (xs rest : List Sec) (hx : ∀ x ∈ xs, x.beg = false) : ∀ cur, rowsAcc cur (xs ++ rest) = rowsAcc (cur ++ xs.flatMap (·.data)) rest := by
  induction xs with
  | nil => intro cur; simp
  | cons x xs ih =>
    intro cur
    have hb := hx x List.mem_cons_self
    rw [List.cons_append, rowsAcc, hb, if_neg (by decide), ih (fun y hy => hx y (List.mem_cons_of_mem _ hy)), List.flatMap_cons, List.append_assoc]
/-- The length of the first row. -/
structure RowN (cs : List Sec) (n : Nat) : Prop where
  one : 1 ≤ n
  le : n ≤ cs.length
  plain : ∀ i c, 1 ≤ i → i < n → cs[i]? = some c → c.beg = false
  stop : ∀ c, cs[n]? = some c → c.beg = true
theorem rowsP_row (cs : List Sec) (n : Nat) (h : RowN cs n) : rowsP cs = (cs.take n).flatMap (·.data) :: rowsP (cs.drop n) := by
  cases cs with
  | nil => exact absurd h.le (by have := h.one; simp; omega)
  | cons s cs =>
    obtain ⟨m, rfl⟩ : ∃ m, n = m + 1 := ⟨n - 1, by have := h.one; omega⟩
    rw [List.take_succ_cons, List.drop_succ_cons, List.flatMap_cons]
    show rowsAcc s.data cs = _
    have hx : ∀ x ∈ cs.take m, x.beg = false := fun x hx => by
      obtain ⟨i, hi⟩ := List.mem_iff_getElem?.1 hx
      have him : i < m := by
        rcases Nat.lt_or_ge i m with y | y
        · exact y
        · rw [List.getElem?_eq_none (by rw [List.length_take]; omega)] at hi; cases hi
      rw [List.getElem?_take_of_lt him] at hi
      exact h.plain (i + 1) x (by omega) (by omega) (by rw [List.getElem?_cons_succ]; exact hi)
    conv => lhs; rw [← List.take_append_drop m cs]
    rw [rowsAcc_plain _ _ hx]
    cases hd : cs.drop m with
    | nil => rfl
    | cons c rest =>
      have hc : cs[m]? = some c := by
        have := congrArg List.head? hd
        rw [List.head?_drop] at this
        exact this
      have hb := h.stop c (by rw [List.getElem?_cons_succ]; exact hc)
      rw [rowsAcc, hb, if_pos rfl]
      rfl
theorem rowsP_len (ss : List Sec) (hd : ∀ s ∈ ss, s.data.length ≤ 16) (n : Nat) : ((ss.take n).flatMap (·.data)).length ≤ 16 * ss.length := by
  have h : ∀ l : List Sec, (∀ s ∈ l, s.data.length ≤ 16) → (l.flatMap (·.data)).length ≤ 16 * l.length := by
    intro l
    induction l with
    | nil => intro _; simp
    | cons s l ih =>
      intro h
      have h1 := h s List.mem_cons_self
      have h2 := ih (fun x hx => h x (List.mem_cons_of_mem _ hx))
      rw [List.flatMap_cons, List.length_append, List.length_cons]; omega
  have := h (ss.take n) (fun s hs => hd s (List.mem_of_mem_take hs))
  rw [List.length_take] at this
  omega

/-- What Open answers, by what it looks for. -/
def openP (ss : List Sec) : Option (LogD × List RecD) :=
  if (lastL ss).n = 0 then some (⟨1, 1, 1⟩, [])
  else if (lastL ss).first < 1 ∨ (lastL ss).n < (lastL ss).first then none
  else match cntF ss (lastL ss).first ((lastL ss).n - (lastL ss).first + 1) with
    | none => none
    | some cs => match tellP cs with
      | none => none
      | some rs => some (⟨(lastL ss).n + 1, (lastL ss).first, (lastL ss).first⟩, rs)
theorem tells_openP (S : List (List Int)) (hN : 0 < S.length) : tells S = openP (thereL S) := by
  unfold tells openP
  rw [lastL_n]
  by_cases h0 : lastN S = 0
  · rw [if_pos h0, if_pos h0]
  · rw [if_neg h0, if_neg h0, secN_last S h0]
    simp only
    by_cases h1 : (lastL (thereL S)).first < 1 ∨ lastN S < (lastL (thereL S)).first
    · rw [if_pos h1, if_pos (by omega)]
    · rw [if_neg h1]
      have hf : 1 ≤ (lastL (thereL S)).first := by omega
      by_cases h2 : S.length ≤ lastN S - (lastL (thereL S)).first
      · rw [if_pos (by omega)]
        cases hc : cntF (thereL S) (lastL (thereL S)).first (lastN S - (lastL (thereL S)).first + 1) with
        | none => rfl
        | some cs =>
          have := cntF_le (thereL S) _ _ cs (by rw [thereL_len]; exact hN) hf hc
          rw [thereL_len] at this
          omega
      · rw [if_neg (by omega), secsFrom_there S _ hf hN]
        cases cntF (thereL S) (lastL (thereL S)).first (lastN S - (lastL (thereL S)).first + 1) with
        | none => rfl
        | some cs => simp only [tellP_eq]; cases tellR cs <;> rfl
theorem readS_ok {z : List Int} {s : Sec} (hl : z.length = 32) (hz : isBytes z) (h : readS z = some s) : s.data.length ≤ 16 ∧ s.n < 4294967296 ∧ s.first < 4294967296 ∧ isBytes s.data := by
  unfold readS at h
  split at h
  · rename_i hi
    injection h with h
    simp only [isSec, Bool.and_eq_true, decide_eq_true_eq, beq_iff_eq] at hi
    have h1 := fromN_lt (z.take 4) (hz.take 4)
    have h2 := fromN_lt ((z.drop 4).take 4) ((hz.drop 4).take 4)
    have e1 : (z.take 4).length = 4 := by rw [List.length_take]; omega
    have e2 : ((z.drop 4).take 4).length = 4 := by rw [List.length_take, List.length_drop]; omega
    rw [e1] at h1
    rw [e2] at h2
    rw [← h]
    refine ⟨?_, by show fromN _ < _; omega, by show fromN _ < _; omega, (hz.drop 9).take _⟩
    show ((z.drop 9).take _).length ≤ 16
    rw [List.length_take]
    have := hi.1.2
    omega
  · cases h
end Go.Proofs.Ytdmkkfpbgpijjaa
namespace Go.Proofs.Ytdmkkfpbgpijjaa
open Go.RowKit Go.Deep Go.Maps
set_option linter.unusedVariables false

theorem there_read (S : List (List Int)) (i : Nat) (hl : (secAt S i).length = 32) (hz : isBytes (secAt S i)) : thereS S i = if readsB (secAt S i) = true ∧ placeOf S.length (secR16 (secAt S i)).n = i then secR16 (secAt S i) else zS := by
  unfold thereS
  rw [readS_eq _ hl hz]
  unfold readsB
  by_cases h1 : secL (secR16 (secAt S i)) = secAt S i
  · rw [if_pos h1]
    simp only
    by_cases h2 : 1 ≤ (secR16 (secAt S i)).n ∧ placeOf S.length (secR16 (secAt S i)).n = i
    · have h3 : (secR16 (secAt S i)).n ≠ 0 := by omega
      rw [if_pos h2, if_pos ⟨by simp [h3, h1], h2.2⟩]
    · rw [if_neg h2, if_neg (fun h => h2 ⟨by have := h.1; simp only [Bool.and_eq_true, decide_eq_true_eq] at this; omega, h.2⟩)]
  · rw [if_neg h1]
    simp only
    rw [if_neg (fun h => by have := h.1; simp [h1] at this)]
theorem now_bytes {st : St} (h : BytesD st) {N : Nat} (hw : Wf N st) (i : Nat) (hi : i < N) : isBytes (secAt (nows st) i) := by
  have hl := hw.nows_len
  have hm : secAt (nows st) i ∈ nows st := by
    unfold secAt
    rw [List.getElem?_eq_getElem (by omega), Option.getD_some]
    exact List.getElem_mem _
  exact bytes_nows h _ hm
theorem there_len (S : List (List Int)) (i : Nat) (hl : (secAt S i).length = 32) (hz : isBytes (secAt S i)) : okS (thereS S i) := by
  rw [there_read S i hl hz]
  split
  · exact secR16_ok _ hl hz
  · exact zS_ok

/-! ### sectors in memory -/
theorem good_moves {A : Option Addr} {c b : Nat} {zs : List Int} {w w' : World} (g : Good A c zs w) (hm : Moves (· = b) w w') (hne : ∀ a, A = some a → a.block ≠ b) : Good A c zs w' := by
  refine ⟨fun h0 => ?_, g.2⟩
  obtain ⟨b', off, rfl, hlt, hc⟩ := g.1 h0
  exact ⟨b', off, rfl, Nat.lt_of_lt_of_le hlt hm.size, fun j hj => (World.cell?_of_block (a := ⟨b', off + j, none⟩) (hm.block b' hlt (hne _ rfl))).trans (hc j hj)⟩
def secX (s : Sec) (A : Option Addr) (c : Nat) : List Value := secV s.n s.first s.beg A s.data.length c
theorem secX_len (s : Sec) (A : Option Addr) (c : Nat) : (secX s A c).length = 4 := rfl
/-- Sectors that the call lays, one behind the other, from the block's beginning on. -/
structure Built (w : World) (b : Nat) (ss : List Sec) : Prop where
  lt : b < w.heap.size
  at_ : ∀ j s, ss[j]? = some s → w.there b (j * 4) 4 ∧ ∃ A c, w.rangeAt b (j * 4) (secX s A c) ∧ Good A c s.data w ∧ ∀ a, A = some a → a.block ≠ b
theorem Built.below {w w' : World} {b : Nat} {ss : List Sec} (h : Built w b ss) (hb : Below w.heap.size w w') : Built w' b ss :=
  ⟨Nat.lt_of_lt_of_le h.lt hb.size, fun j s hj => by
    obtain ⟨ht, A, c, hr, hg, hne⟩ := h.at_ j s hj
    exact ⟨there_below ht hb h.lt, A, c, rangeAt_of_block' (hb.block b h.lt) hr, hg.below hb, hne⟩⟩
theorem Built.set {w w2 : World} {b i : Nat} {ss : List Sec} {s : Sec} {A : Option Addr} {c : Nat} (h : Built w b ss) (hi : i < ss.length) (e : Hid (w2 = w.setCells b (i * 4) (secX s A c))) (g : Good A c s.data w) (hne : ∀ a, A = some a → a.block ≠ b) : Built w2 b (ss.set i s) := by
  have hm := moves_store e
  refine ⟨by rw [size_store e]; exact h.lt, fun j t hj => ?_⟩
  have hjl : j < ss.length := by
    rcases Nat.lt_or_ge j ss.length with x | x
    · exact x
    · rw [List.getElem?_eq_none (by rw [List.length_set]; exact x)] at hj; cases hj
  obtain ⟨ht, A', c', hr, hg, hne'⟩ := h.at_ j ss[j] (List.getElem?_eq_getElem hjl)
  refine ⟨there_store e ht, ?_⟩
  by_cases hij : i = j
  · subst hij
    rw [List.getElem?_set_self hi] at hj
    injection hj with hj
    subst hj
    exact ⟨A, c, range_store e ht, good_moves g hm hne, hne⟩
  · rw [List.getElem?_set_ne hij, List.getElem?_eq_getElem hjl] at hj
    injection hj with hj
    subst hj
    exact ⟨A', c', range_store_apart e hr (.inr (by rw [secX_len, secX_len]; omega)), good_moves hg hm hne', hne'⟩
theorem made_secs (n j i : Nat) (hj : j < n) (hi : i < 4) : (madeCells (secV 0 0 false none 0 0).toArray (n * 4))[j * 4 + i]? = (secV 0 0 false none 0 0)[i]? := by
  have h1 : j * 4 + i < n * 4 := by omega
  have h2 : (j * 4 + i) % 4 = i := by omega
  have h3 : (madeCells (secV 0 0 false none 0 0).toArray (n * 4))[j * 4 + i]? = some ((secV 0 0 false none 0 0)[i]?.getD default) := by simp [madeCells, h1, h2, secV]
  rw [h3]
  have h4 : i = 0 ∨ i = 1 ∨ i = 2 ∨ i = 3 := by omega
  rcases h4 with rfl | rfl | rfl | rfl <;> rfl
theorem built_made {w : World} {b n : Nat} {t : TypeId} (hb : w.heap[b]? = some (.cells (madeCells (secV 0 0 false none 0 0).toArray (n * 4)) t)) : Built w b (List.replicate n zS) := by
  refine ⟨(Array.getElem?_eq_some_iff.1 hb).1, fun j s hj => ?_⟩
  rw [List.getElem?_replicate] at hj
  have hjn : j < n := by
    rcases Nat.lt_or_ge j n with x | x
    · exact x
    · rw [if_neg (by omega)] at hj; cases hj
  rw [if_pos hjn] at hj
  injection hj with hj
  subst hj
  have hc : ∀ i, i < 4 → w.cell? ⟨b, j * 4 + i, none⟩ = (secV 0 0 false none 0 0)[i]? := fun i hi => by
    rw [cell_of_row w b (j * 4 + i) _ t (0, 0) hb]; exact made_secs n j i hjn hi
  refine ⟨fun i hi => ⟨?_, by simp [World.frozen?, hb]⟩, none, 0, fun i v hv => ?_, Good.nil w, fun a e => by cases e⟩
  · rw [hc i hi]
    simp [secV]; omega
  · have hi : i < 4 := by
      rcases Nat.lt_or_ge i 4 with x | x
      · exact x
      · rw [List.getElem?_eq_none (by rw [secX_len]; exact x)] at hv; cases hv
    rw [hc i hi]; exact hv
set_option maxRecDepth 100000 in
theorem info_secV : (Try.prog.info? 72).map (fun i => (i.zero, i.size, i.bytes)) = some (some (.agg (secV 0 0 false none 0 0).toArray), 4, 48) := by kernel_rfl
/-- The sectors so far: the first k as they stand there. -/
def uptoS (S : List (List Int)) (N k : Nat) : List Sec := (thereL S).take k ++ List.replicate (N - k) zS
theorem uptoS_zero (S : List (List Int)) (N : Nat) : uptoS S N 0 = List.replicate N zS := by simp [uptoS]
theorem uptoS_all (S : List (List Int)) (N : Nat) (h : S.length = N) : uptoS S N N = thereL S := by
  simp [uptoS, List.take_of_length_le (show (thereL S).length ≤ N by rw [thereL_len]; omega)]
theorem uptoS_len (S : List (List Int)) (N k : Nat) (h : S.length = N) (hk : k ≤ N) : (uptoS S N k).length = N := by simp [uptoS, thereL_len]; omega
theorem uptoS_set (S : List (List Int)) (N k : Nat) (h : S.length = N) (hk : k < N) : (uptoS S N k).set k (thereS S k) = uptoS S N (k + 1) := by
  have hl : k < (thereL S).length := by rw [thereL_len]; omega
  have e : (thereL S)[k] = thereS S k := by simp [thereL]
  unfold uptoS
  rw [List.take_succ_eq_append_getElem hl, e, show N - k = (N - (k + 1)) + 1 by omega, List.replicate_succ, List.set_append_right _ _ (by rw [List.length_take]; omega), List.length_take, Nat.min_eq_left (by omega), Nat.sub_self, List.set_cons_zero, List.append_assoc]
  rfl
theorem uptoS_same (S : List (List Int)) (N k : Nat) (h : S.length = N) (hk : k < N) (hz : thereS S k = zS) : uptoS S N k = uptoS S N (k + 1) := by
  have hl : k < (thereL S).length := by rw [thereL_len]; omega
  have e : (thereL S)[k] = thereS S k := by simp [thereL]
  unfold uptoS
  rw [List.take_succ_eq_append_getElem hl, e, hz, show N - k = (N - (k + 1)) + 1 by omega, List.replicate_succ, List.append_assoc]
  rfl

def SectorsSays (S : List (List Int)) (N : Nat) (w : World) (e : Ending) (w' : World) : Prop := ∃ b, e = .returned (.slice (some ⟨b, 0, none⟩) N N) ∧ Built w' b (thereL S) ∧ Below w.heap.size w w'
set_option maxRecDepth 100000 in
set_option maxHeartbeats 2000000 in
theorem sectorsOf_any (FD : Nat → Prop) (db N : Nat) (st : St) (S : List (List Int)) (w : World) (h : DiskAt w FD db N st) (hb : BytesD st) (hS : nows st = S) :
    Calls Try.prog 29 #[.pointer (some ⟨db, 0, none⟩)] w (SectorsSays S N w) := by
  obtain ⟨i0, hi, hz0, hz1, hz2⟩ := info_parts info_secV
  obtain ⟨hN1, hN2⟩ := h.n2
  have HL := Lib.hid (show S.length = N by rw [← hS]; exact h.wf.nows_len)
  have HZ := Lib.hid (fun i (hi : i < N) => (show (secAt S i).length = 32 ∧ isBytes (secAt S i) by rw [← hS]; exact ⟨h.wf.now_len hi, now_bytes hb h.wf i hi⟩))
  have hmk : ∀ w : World, (Instr.makeSlice 69 (.int .i64 (N : Int)) (.int .i64 (N : Int))).run Try.prog w = .ok (.slice (some ⟨w.heap.size, 0, none⟩) N N) (w.alloc (.cells (madeCells (secV 0 0 false none 0 0).toArray (N * 4)) 72)) := by
    intro w
    have := run_make (P := Try.prog) w 69 72 i0 _ Try.underlying69 hi hz0 .i64 .i64 N N (by omega) (by omega) (by rw [hz2]; omega) (by omega)
    rw [hz1] at this
    simpa [Value.cells] using this
  have HM := Lib.hid (fun (W : World) => built_made (n := N) (heap_alloc_new W (.cells (madeCells (secV 0 0 false none 0 0).toArray (N * 4)) 72)))
  generalize madeCells (secV 0 0 false none 0 0).toArray (N * 4) = C at *
  clear hi hz0 hz1 hz2
  have c1 := fun W (hW : Below w.heap.size w W) => sectors_at FD db N st W (h.moves (moves_of_below (F := fun _ => False) ⟨hW.os, hW.tape, hW.output, hW.size, fun k hk => hW.block k hk⟩) (fun _ _ e => e))
  have c2 := fun (i : Nat) (hi : i < N) W (hW : Below w.heap.size w W) => read_at FD db N i st (secAt S i) W (h.below hW) hi (by rw [← hS]; rfl)
  have HS := Lib.hid hS
  clear hS
  go_enter Try.func29, Try.ntmps29
  go_wp2_with fail
  refine (c1 _ (Below.refl _ _)).mono ?_
  rintro e w' ⟨rfl, rfl⟩
  clear c1
  go_wp2
  have hB0 : Below w.heap.size w (w.alloc (.cells C 72)) := (Below.refl _ _).alloc (Nat.le_refl _) _
  have hM0 := HM.out w
  rw [← uptoS_zero S N] at hM0
  generalize w.alloc (.cells C 72) = W0 at *
  go_loopw [14] (fun i wr => ∃ k : Nat, k ≤ N ∧ i = .int .i64 k ∧ Built wr w.heap.size (uptoS S N k) ∧ Below w.heap.size w wr) (fun i _ => N - (intOf i).toNat)
  case atStart => exact ⟨0, Nat.zero_le _, rfl, hM0, hB0⟩
  case round =>
    obtain ⟨k, hk, rfl, hbu, hbe⟩ := hrel
    by_cases hlt : k < N
    · have hlti : (k : Int) < (N : Int) := by omega
      have hd : decide (k < N) = true := by simpa using hlt
      obtain ⟨hzl, hzb⟩ := HZ.out k hlt
      have HTR := Lib.hid (there_read S k hzl hzb)
      go_wp2_with fail
      refine (c2 k hlt _ hbe).mono ?_
      rintro e W1 ⟨bb, rfl, hr1, hge, hlb, b1⟩
      have g1 : Good (some ⟨bb, 0, none⟩) 32 (secAt S k) W1 := goodK hr1 hlb (by rw [hzl]; omega)
      have c3 := readSector_any bb 0 32 (secAt S k) hzl hzb W1 g1
      have HSO := Lib.hid (secR16_ok _ hzl hzb)
      have HGD := Lib.hid (show ∀ W, Good (some ⟨bb, 0, none⟩) 32 (secAt S k) W → Good (some ⟨bb, 9, none⟩) 23 (secR16 (secAt S k)).data W from fun W h => by have := (h.drop 9 (by omega)).take (min (flagOf (secAt S k) % 128) 16); rw [Nat.zero_add] at this; exact this)
      have HRB := Lib.hid (show readsB (secAt S k) = true → 1 ≤ (secR16 (secAt S k)).n from fun h => by unfold readsB at h; simp only [Bool.and_eq_true, decide_eq_true_eq] at h; omega)
      have G1 := Lib.hid g1
      have HNE : bb ≠ w.heap.size := by have := hbe.size; have := hbu.lt; omega
      unfold ReadSecSays at c3
      generalize secR16 (secAt S k) = s at *
      rw [HL.out] at HTR
      clear hr1 hge hlb hzl hzb g1 c2
      go_wp2_with fail
      refine c3.mono ?_
      clear c3
      rintro e W2 ⟨b2, ⟨hrd, rfl⟩ | ⟨hrd, rfl⟩⟩
      · have g2 := HGD.out W2 (G1.out.below b2)
        have hn1 := HRB.out hrd
        have hn2 : s.n ≤ 4294967296 := by have := HSO.out.n; omega
        have hBu2 := (hbu.below b1).below b2
        have hBe2 := below_more (below_more hbe b1 (Nat.le_refl _)) b2 (Nat.le_refl _)
        have HRD := Lib.hid hrd
        clear hrd hbu hbe b1 b2
        obtain ⟨l, hl⟩ : ∃ l, s.data.length = l := ⟨_, rfl⟩
        have HLL := Lib.hid hl
        rw [hl]
        clear hl
        by_cases hp : placeOf N s.n = k
        · have c4 := fun W => place_any s.n N k hn1 hn2 hN1 hN2 hp W
          have HP := Lib.hid hp
          have HT := Lib.hid (fun o => (hBu2.below (w' := W2.alloc o) ((Below.refl _ _).alloc (Nat.le_refl _) o)))
          have HI : k < (uptoS S N k).length := by rw [uptoS_len S N k HL.out hk]; exact hlt
          clear hp
          go_wp2_with (first | (go_at_call 41; refine (c4 _).mono ?_; rintro e w' ⟨rfl, rfl⟩) | (refine wpList_storeT rfl 72 _ _ rfl w.heap.size (k * 4) (secV s.n s.first s.beg (some ⟨bb, 9, none⟩) l 23) rfl rfl ((HT.out _).at_ k _ (List.getElem?_eq_getElem HI)).1 size_secV (secV_one _ _ _ _ _ _) ?_; intro W5 e5))
          go_roundw
          case rel =>
            refine ⟨k + 1, by omega, by go_num, ?_, ?_⟩
            · have hset := (HT.out _).set HI (s := s) (A := some ⟨bb, 9, none⟩) (c := 23) (by unfold secX; rw [HLL.out]; exact e5) (g2.alloc _) (fun a e => by cases e; exact HNE)
              rw [← uptoS_set S N k HL.out hlt, HTR.out, if_pos ⟨HRD.out, HP.out⟩]
              exact hset
            · exact (hBe2.trans (((Below.refl W2.heap.size W2).alloc (Nat.le_refl _) _).mono hBe2.size)).trans (below_store e5 (by have := hBe2.size; simp; omega) (Nat.le_refl _))
          case measure => simp [intOf]; omega
        · obtain ⟨q, hq⟩ : ∃ q, placeOf N s.n = q := ⟨_, rfl⟩
          have c4 := fun W => place_any s.n N q hn1 hn2 hN1 hN2 hq W
          have hqk : ((q : Int) == (k : Int)) = false := by simp; omega
          have hqk2 : (q == k) = false := by simp; omega
          have HP := Lib.hid hp
          clear hp hq
          go_wp2_with (go_at_call 41; refine (c4 _).mono ?_; rintro e w' ⟨rfl, rfl⟩)
          go_roundw
          case rel =>
            refine ⟨k + 1, by omega, by go_num, ?_, ?_⟩
            · rw [← uptoS_same S N k HL.out hlt (by rw [HTR.out, if_neg (fun h => HP.out h.2)])]
              exact hBu2.below ((Below.refl _ _).alloc (Nat.le_refl _) _)
            · exact below_more hBe2 ((Below.refl _ _).alloc (Nat.le_refl _) _) (Nat.le_refl _)
          case measure => simp [intOf]; omega
      · have hBu2 := (hbu.below b1).below b2
        have hBe2 := below_more (below_more hbe b1 (Nat.le_refl _)) b2 (Nat.le_refl _)
        have HRD := Lib.hid hrd
        clear hrd hbu hbe b1 b2
        go_wp2
        go_roundw
        case rel =>
          refine ⟨k + 1, by omega, by go_num, ?_, ?_⟩
          · rw [← uptoS_same S N k HL.out hlt (by rw [HTR.out, if_neg (fun h => by have := h.1; rw [HRD.out] at this; cases this)])]
            exact hBu2.below ((Below.refl _ _).alloc (Nat.le_refl _) _)
          · exact below_more hBe2 ((Below.refl _ _).alloc (Nat.le_refl _) _) (Nat.le_refl _)
        case measure => simp [intOf]; omega
    · have hge : ¬ ((k : Int) < (N : Int)) := by omega
      obtain rfl : k = N := by omega
      rw [uptoS_all S k HL.out] at hbu
      go_wp2
      go_ret
      exact ⟨_, rfl, hbu, hbe⟩
end Go.Proofs.Ytdmkkfpbgpijjaa
namespace Go.Proofs.Ytdmkkfpbgpijjaa
open Go.RowKit Go.Deep Go.Maps
set_option linter.unusedVariables false

/-- Sectors in memory that are read. -/
def GoodS (b o : Nat) (ss : List Sec) (w : World) : Prop := b < w.heap.size ∧ ∀ j s, ss[j]? = some s → ∃ A c, w.rangeAt b (o + j * 4) (secX s A c) ∧ Good A c s.data w
theorem Built.good {w : World} {b : Nat} {ss : List Sec} (h : Built w b ss) : GoodS b 0 ss w := ⟨h.lt, fun j s hj => by
  obtain ⟨_, A, c, hr, hg, _⟩ := h.at_ j s hj
  exact ⟨A, c, by rw [Nat.zero_add]; exact hr, hg⟩⟩
theorem GoodS.below {w w' : World} {b o : Nat} {ss : List Sec} (h : GoodS b o ss w) (hb : Below w.heap.size w w') : GoodS b o ss w' := ⟨Nat.lt_of_lt_of_le h.1 hb.size, fun j s hj => by
  obtain ⟨A, c, hr, hg⟩ := h.2 j s hj
  exact ⟨A, c, rangeAt_of_block' (hb.block b h.1) hr, hg.below hb⟩⟩
theorem GoodS.drop {w : World} {b o : Nat} {ss : List Sec} (h : GoodS b o ss w) (n : Nat) : GoodS b (o + n * 4) (ss.drop n) w := ⟨h.1, fun j s hj => by
  rw [List.getElem?_drop] at hj
  obtain ⟨A, c, hr, hg⟩ := h.2 (n + j) s hj
  exact ⟨A, c, by rw [show o + n * 4 + j * 4 = o + (n + j) * 4 by omega]; exact hr, hg⟩⟩
theorem GoodS.take {w : World} {b o : Nat} {ss : List Sec} (h : GoodS b o ss w) (n : Nat) : GoodS b o (ss.take n) w := ⟨h.1, fun j s hj => h.2 j s (by
  rw [List.getElem?_take] at hj
  split at hj
  · exact hj
  · cases hj)⟩
theorem range_four {w : World} {b o : Nat} {s : Sec} {A : Option Addr} {c l : Nat} (h : w.rangeAt b o (secX s A c)) (hl : s.data.length = l) : w.cell? ⟨b, o, none⟩ = some (.int .i64 s.n) ∧ w.cell? ⟨b, o + 1, none⟩ = some (.int .i64 s.first) ∧ w.cell? ⟨b, o + 2, none⟩ = some (.bool s.beg) ∧ w.cell? ⟨b, o + 3, none⟩ = some (.slice A l c) := by
  subst hl
  exact ⟨h 0 _ rfl, h 1 _ rfl, h 2 _ rfl, h 3 _ rfl⟩
/-- The box of a sector of the call's own. -/
structure BoxS (B : Nat) (W : World) (s : Sec) (A : Option Addr) (c : Nat) : Prop where
  row : W.rangeAt B 0 (secX s A c)
  thr : W.there B 0 4
  lt : B < W.heap.size
theorem BoxS.below {B : Nat} {W W' : World} {s : Sec} {A : Option Addr} {c : Nat} (h : BoxS B W s A c) (hb : Below W.heap.size W W') : BoxS B W' s A c :=
  ⟨rangeAt_of_block' (hb.block B h.lt) h.row, there_below h.thr hb h.lt, Nat.lt_of_lt_of_le h.lt hb.size⟩
theorem BoxS.alloc {B : Nat} {W : World} {s : Sec} {A : Option Addr} {c : Nat} (h : BoxS B W s A c) (o : Obj) : BoxS B (W.alloc o) s A c := h.below ((Below.refl _ _).alloc (Nat.le_refl _) o)
theorem NewV.box {B : Nat} {W : World} (h : NewV B W) : BoxS B W zS none 0 := by
  refine ⟨fun j v hv => ?_, fun j hj => ?_, h.lt⟩
  · match j, hv with
    | 0, hv => cases hv; exact h.c0
    | 1, hv => cases hv; exact h.c1
    | 2, hv => cases hv; exact h.c2
    | 3, hv => cases hv; exact h.c3
    | j + 4, hv => simp [secX, secV] at hv
  · match j, hj with
    | 0, _ => exact ⟨by rw [h.c0]; rfl, h.f0⟩
    | 1, _ => exact ⟨by rw [h.c1]; rfl, h.f1⟩
    | 2, _ => exact ⟨by rw [h.c2]; rfl, h.f2⟩
    | 3, _ => exact ⟨by rw [h.c3]; rfl, h.f3⟩
theorem BoxS.put {B : Nat} {W W2 : World} {s s' : Sec} {A A' : Option Addr} {c c' : Nat} (h : BoxS B W s A c) (e : Hid (W2 = W.setCells B 0 (secX s' A' c'))) : BoxS B W2 s' A' c' :=
  ⟨range_store e h.thr, there_store e h.thr, by rw [size_store e]; exact h.lt⟩

def LastSays (ss : List Sec) (w : World) (e : Ending) (w' : World) : Prop := ∃ A c, e = .returned (.agg #[.int .i64 (lastL ss).n, .int .i64 (lastL ss).first, .bool (lastL ss).beg, .slice A (lastL ss).data.length c]) ∧ Below w.heap.size w w'
set_option maxRecDepth 100000 in
set_option maxHeartbeats 2000000 in
theorem lastOf_any (b N : Nat) (ss : List Sec) (w : World) (g : GoodS b 0 ss w) (hl : ss.length = N) (hN : N ≤ 512) : Calls Try.prog 30 #[.slice (some ⟨b, 0, none⟩) N N] w (LastSays ss w) := by
  have HL := Lib.hid hl
  have hbl := g.1
  have G := Lib.hid g
  clear hl g
  have n0 := newV_new w
  have n1 := newV_new (w.alloc (.cells #[.int .i64 0, .int .i64 0, .bool false, .slice none 0 0] 72))
  have n0' := n0.alloc (.cells #[.int .i64 0, .int .i64 0, .bool false, .slice none 0 0] 72)
  have hB0 : Below w.heap.size w ((w.alloc (.cells #[.int .i64 0, .int .i64 0, .bool false, .slice none 0 0] 72)).alloc (.cells #[.int .i64 0, .int .i64 0, .bool false, .slice none 0 0] 72)) := ((Below.refl _ w).alloc (Nat.le_refl _) _).alloc (by simp) _
  rw [World.size_alloc] at n1
  have HN0 := Lib.hid n0'.box
  have HN1 := Lib.hid n1.box
  clear n0 n1 n0'
  go_enter Try.func30, Try.ntmps30
  go_wp2
  generalize (w.alloc (.cells #[.int .i64 0, .int .i64 0, .bool false, .slice none 0 0] 72)).alloc (.cells #[.int .i64 0, .int .i64 0, .bool false, .slice none 0 0] 72) = W0 at *
  go_loopw [8] (fun i wr => ∃ k : Nat, k ≤ N ∧ i = .int .i64 k ∧ BoxS w.heap.size wr zS none 0 ∧ (∃ A c, BoxS (w.heap.size + 1) wr (lastL (ss.take k)) A c) ∧ Below w.heap.size w wr) (fun i _ => N - (intOf i).toNat)
  case atStart => exact ⟨0, Nat.zero_le _, rfl, HN0.out, ⟨none, 0, HN1.out⟩, hB0⟩
  case round =>
    obtain ⟨k, hk, rfl, hr, ⟨Al, cl, hla⟩, hbe⟩ := hrel
    by_cases hlt : k < N
    · have hlti : (k : Int) < (N : Int) := by omega
      have hkl : k < ss.length := by rw [HL.out]; exact hlt
      obtain ⟨A, c, hrow, hg⟩ := G.out.2 k ss[k] (List.getElem?_eq_getElem hkl)
      have HSN := Lib.hid (lastL_snoc (ss.take k) ss[k])
      have HTK := Lib.hid (List.take_succ_eq_append_getElem hkl)
      generalize ss[k] = s at *
      generalize lastL (ss.take k) = t at *
      obtain ⟨l, hl⟩ : ∃ l, s.data.length = l := ⟨_, rfl⟩
      obtain ⟨lt, hlt2⟩ : ∃ lt, t.data.length = lt := ⟨_, rfl⟩
      obtain ⟨x0, x1, x2, x3⟩ := range_four (rangeAt_of_block' (hbe.block b hbl) hrow) hl
      obtain ⟨y0, y1, y2, y3⟩ := range_four hla.row hlt2
      have hsz := hla.lt
      have HX := Lib.hid hl
      clear hl hlt2 hrow hg
      rw [Nat.zero_add] at x0 x1 x2 x3
      have hR := Lib.hid hr
      have hLa := Lib.hid (fun o => hla.alloc o)
      clear hr hla
      by_cases hgt : t.n < s.n
      · have hgi : (t.n : Int) < (s.n : Int) := by omega
        have hgd : decide (t.n < s.n) = true := by simpa using hgt
        go_wp2_with (refine wpList_storeT rfl 72 _ _ rfl (w.heap.size + 1) 0 (secV s.n s.first s.beg A l c) rfl rfl (hLa.out _).thr size_secV (secV_one _ _ _ _ _ _) ?_; intro W5 e5)
        go_roundw
        case rel =>
          refine ⟨k + 1, by omega, by go_num, ?_, ⟨A, c, ?_⟩, ?_⟩
          · have hm := moves_store e5
            have hx := hR.out.alloc (.cells #[.int .i64 s.n, .int .i64 s.first, .bool s.beg, .slice A l c] 72)
            have hbk := hm.block w.heap.size hx.lt (by show ¬ w.heap.size = w.heap.size + 1; omega)
            exact ⟨rangeAt_of_block' hbk hx.row, there_of_block' hbk hx.thr, Nat.lt_of_lt_of_le hx.lt hm.size⟩
          · rw [HTK.out, HSN.out, if_pos hgt]
            exact (hLa.out _).put (by unfold secX; rw [HX.out]; exact e5)
          · exact (below_more hbe ((Below.refl _ _).alloc (Nat.le_refl _) _) (Nat.le_refl _)).trans (below_store e5 (by have := hbe.size; simp; omega) (by omega))
        case measure => simp [intOf]; omega
      · have hgi : ¬ ((t.n : Int) < (s.n : Int)) := by omega
        have hgd : decide (t.n < s.n) = false := by simpa using hgt
        go_wp2
        go_roundw
        case rel =>
          refine ⟨k + 1, by omega, by go_num, hR.out.alloc _, ⟨Al, cl, ?_⟩, below_more hbe ((Below.refl _ _).alloc (Nat.le_refl _) _) (Nat.le_refl _)⟩
          rw [HTK.out, HSN.out, if_neg hgt]
          exact hLa.out _
        case measure => simp [intOf]; omega
    · have hge : ¬ ((k : Int) < (N : Int)) := by omega
      obtain rfl : k = N := by omega
      rw [List.take_of_length_le (by rw [HL.out]; exact Nat.le_refl _)] at hla
      obtain ⟨t, ht⟩ : ∃ t, lastL ss = t := ⟨_, rfl⟩
      rw [ht] at hla
      have HT := Lib.hid ht
      obtain ⟨lt, hlt2⟩ : ∃ lt, t.data.length = lt := ⟨_, rfl⟩
      obtain ⟨y0, y1, y2, y3⟩ := range_four hla.row hlt2
      have HLT := Lib.hid hlt2
      clear hlt2 ht
      have ht0 := hr.thr
      have hlt0 := hr.lt
      clear hr hla
      go_wp2_with (refine wpList_storeT rfl 72 _ _ rfl w.heap.size 0 (secV t.n t.first t.beg Al lt cl) rfl rfl ht0 size_secV (secV_one _ _ _ _ _ _) ?_; intro W5 e5)
      have hrw := range_store e5 ht0
      have z0 := hrw 0 _ rfl
      have z1 := hrw 1 _ rfl
      have z2 := hrw 2 _ rfl
      have z3 := hrw 3 _ rfl
      refine bodyPost_ret (v := .agg #[.int .i64 t.n, .int .i64 t.first, .bool t.beg, .slice Al lt cl]) ?_ rfl ⟨Al, cl, by rw [HT.out, HLT.out], hbe.trans (below_store e5 hbe.size (Nat.le_refl _))⟩
      simp at z0 z1 z2 z3
      simp [results, Try.results30, go_sem, z0, z1, z2, z3]

/-! ### a row of sectors of the call's own -/
structure SecE where
  s : Sec
  A : Option Addr
  c : Nat
def secE (x : SecE) : List Value := secX x.s x.A x.c
def OwnsS (B : Nat) (w : World) (v : Value) (xs : List SecE) : Prop := w.ownsRow B 72 4 v xs.length (xs.flatMap secE)
theorem ownsS_nil (B : Nat) (w : World) : OwnsS B w (.slice none 0 0) [] := ⟨rfl, .inl ⟨rfl, rfl⟩⟩
theorem OwnsS.below {B : Nat} {w w' : World} {v : Value} {xs : List SecE} (h : OwnsS B w v xs) (hb : Below w.heap.size w w') : OwnsS B w' v xs :=
  World.ownsRow.kept h (row := none) ⟨hb.os, hb.tape, hb.output, hb.size, fun j hj _ => hb.block j hj⟩ (by cases hv : v.ownBlock <;> simp)
theorem OwnsS.alloc {B : Nat} {w : World} {v : Value} {xs : List SecE} (h : OwnsS B w v xs) (o : Obj) : OwnsS B (w.alloc o) v xs := h.below ((Below.refl _ _).alloc (Nat.le_refl _) o)
theorem OwnsS.base {B B' : Nat} {w : World} {v : Value} {xs : List SecE} (h : OwnsS B w v xs) (hB : B' ≤ B) : OwnsS B' w v xs := by
  refine ⟨h.1, ?_⟩
  rcases h.2 with h | ⟨g, cap, cur, h1, h2, h3⟩
  · exact .inl h
  · exact .inr ⟨g, cap, cur, h1, Nat.le_trans hB h2, h3⟩
theorem secE_one (x : SecE) : ∀ u ∈ secE x, u.oneCell' = true := secV_one _ _ _ _ _ _
theorem OwnsS.good {B : Nat} {w : World} {v : Value} {xs : List SecE} (h : OwnsS B w v xs) (hd : ∀ x ∈ xs, Good x.A x.c x.s.data w) (h0 : 0 < xs.length) : ∃ g c, v = .slice (some ⟨g, 0, none⟩) xs.length c ∧ xs.length ≤ c ∧ GoodS g 0 (xs.map (·.s)) w := by
  rcases h.2 with ⟨rfl, hn⟩ | ⟨g, cap, cur, rfl, _, hh, hnc, _, hsz, htk⟩
  · omega
  · refine ⟨g, cap, rfl, hnc, (Array.getElem?_eq_some_iff.1 hh).1, fun j s hj => ?_⟩
    rw [List.getElem?_map] at hj
    cases hx : xs[j]? with
    | none => rw [hx] at hj; cases hj
    | some x =>
      rw [hx] at hj
      cases hj
      refine ⟨x.A, x.c, fun i u hu => ?_, hd x (List.mem_of_getElem? hx)⟩
      have hi : i < 4 := by
        rcases Nat.lt_or_ge i 4 with y | y
        · exact y
        · rw [List.getElem?_eq_none (by rw [secX_len]; exact y)] at hu; cases hu
      have hf := flat_at secE 4 xs (fun _ _ => rfl) j x hx i hi
      have hc := World.ownsRow.cells h (g := g) rfl (j * 4 + i) u (by rw [hf]; exact hu)
      rw [Go.WideShapes.add_plain] at hc
      rw [show 0 + j * 4 + i = 0 + (j * 4 + i) by omega]
      exact hc
/-- A sector appended to sectors of one's own. -/
theorem wpList_appendS {ops : Array Oper} {rest : List Oper} {o : Oper} {a : Act} {Q : Exit → Act → World → Prop} {W : World} (hgd : o.guard = none) (s x : Operand) (ho : o.op = .call { callee := .builtin .append, args := #[s, x], argTypes := #[69, 69] })
    (base : Nat) (v : Value) (xs : List SecE) (hs : a.eval s = v) (hown : OwnsS base W v xs) (r : SecE) (b c : Nat) (hx : a.eval x = .slice (some ⟨b, 0, none⟩) 1 c) (hb : W.rangeAt b 0 (secE r)) (hl : xs.length ≤ 4000) (hbase : base ≤ W.heap.size) (w0 : World) (hbel : Below base w0 W)
    (h : ∀ v' w', OwnsS base w' v' (xs ++ [r]) → Below base w0 w' → wpList Try.prog ops Q rest (a.put o.dst v') w') : wpList Try.prog ops Q (o :: rest) a W := by
  obtain ⟨i0, hi, hz0, hz1, hz2⟩ := info_parts info_secV
  refine wpList_append_own W hgd s x 69 ho base 72 i0 _ 4 48 Try.underlying69 hi hz0 hz1 hz2 rfl (by decide) v xs.length _ hs hown ⟨b, 0, none⟩ 1 c (secE r) hx rfl (fun j u hu => ?_) (secE_one r) (by simp only [maxLen]; omega) (by omega) hbase (fun v' w' hown' hgrow _ => h v' w' ?_ (hbel.grown hgrow hbase (fun k e => (World.ownsRow.lt hown k e).1)))
  · rw [Go.WideShapes.add_plain]
    exact hb j u hu
  · unfold OwnsS
    rw [List.length_append, List.flatMap_append]
    simpa using hown'
theorem range_newS (w : World) (r : SecE) : (w.alloc (.cells (secE r).toArray 72)).rangeAt w.heap.size 0 (secE r) := by
  intro i v hv
  rw [Nat.zero_add, cell_of_row _ w.heap.size i _ 72 (0, 0) (heap_alloc_new w _)]
  simpa using hv

theorem range_newS2 (w : World) (o : Obj) (r : SecE) : ((w.alloc o).alloc (.cells #[.int .i64 r.s.n, .int .i64 r.s.first, .bool r.s.beg, .slice r.A r.s.data.length r.c] 72)).rangeAt (w.heap.size + 1) 0 (secE r) := by
  have := range_newS (w.alloc o) r
  rw [World.size_alloc] at this
  exact this

/-! ### countingOf -/
def CountSays (ss : List Sec) (f k : Nat) (w : World) (e : Ending) (w' : World) : Prop :=
  Below w.heap.size w w' ∧ ((∃ v xs, cntF ss f k = some (xs.map (·.s)) ∧ e = .returned (.tuple #[v, .bool true]) ∧ OwnsS w.heap.size w' v xs ∧ (∀ x ∈ xs, Good x.A x.c x.s.data w')) ∨
    (cntF ss f k = none ∧ e = .returned (.tuple #[.slice none 0 0, .bool false])))
set_option maxRecDepth 100000 in
set_option maxHeartbeats 2000000 in
theorem count_out (b N : Nat) (m f l c : Nat) (g : Bool) (A : Option Addr) (w : World) (hm : m ≤ 4294967296) (hf : f ≤ 4294967296) (h : f < 1 ∨ m < f) :
    Calls Try.prog 31 #[.slice (some ⟨b, 0, none⟩) N N, .agg #[.int .i64 m, .int .i64 f, .bool g, .slice A l c]] w fun e w' => e = .returned (.tuple #[.slice none 0 0, .bool false]) ∧ Below w.heap.size w w' := by
  by_cases h1 : f < 1
  · have h1i : decide ((f : Int) < 1) = true := by simp; omega
    have h1j : (f : Int) < 1 := by omega
    clear h
    go_enter Try.func31, Try.ntmps31
    go_wp2
    go_ret2
    exact ⟨rfl, (Below.refl _ _).alloc (Nat.le_refl _) _⟩
  · have h1i : decide ((f : Int) < 1) = false := by simp; omega
    have h1j : ¬ ((f : Int) < 1) := by omega
    have h2 : m < f := by omega
    have h2i : (m : Int) < (f : Int) := by omega
    have h2d : decide (m < f) = true := by simpa using h2
    clear h
    go_enter Try.func31, Try.ntmps31
    go_wp2
    go_ret2
    exact ⟨rfl, (Below.refl _ _).alloc (Nat.le_refl _) _⟩
set_option maxRecDepth 100000 in
set_option maxHeartbeats 2000000 in
theorem count_any (b N : Nat) (ss : List Sec) (m f l c k : Nat) (gb : Bool) (A : Option Addr) (w : World) (g : GoodS b 0 ss w) (hl : ss.length = N) (hN1 : 1 ≤ N) (hN : N ≤ 512) (hf : 1 ≤ f) (hfm : f ≤ m) (hm : m < 4294967296) (hk : m - f + 1 = k) :
    Calls Try.prog 31 #[.slice (some ⟨b, 0, none⟩) N N, .agg #[.int .i64 m, .int .i64 f, .bool gb, .slice A l c]] w (CountSays ss f k w) := by
  have HL := Lib.hid hl
  have HK := Lib.hid hk
  have hbl := g.1
  have G := Lib.hid g
  have h1i : decide ((f : Int) < 1) = false := by simp; omega
  have h1j : ¬ ((f : Int) < 1) := by omega
  have h2 : ¬ m < f := by omega
  have h2i : ¬ ((m : Int) < (f : Int)) := by omega
  have h2d : decide (m < f) = false := by simpa using h2
  clear hl hk g
  have hcell : ∀ j v, (#[Value.int .i64 (m : Int), Value.int .i64 (f : Int), Value.bool gb, Value.slice A l c])[j]? = some v → (w.alloc (.cells #[.int .i64 m, .int .i64 f, .bool gb, .slice A l c] 72)).cell? ⟨w.heap.size, j, none⟩ = some v := fun j v hv => by
    rw [cell_of_row _ _ j _ 72 (0, 0) (heap_alloc_new w _)]; exact hv
  have HC := Lib.hid hcell
  clear hcell
  go_enter Try.func31, Try.ntmps31
  go_wp2
  have d0 := HC.out 0 _ rfl
  have d1 := HC.out 1 _ rfl
  have hsz : (w.alloc (.cells #[.int .i64 m, .int .i64 f, .bool gb, .slice A l c] 72)).heap.size = w.heap.size + 1 := World.size_alloc _ _
  have hB0 : Below w.heap.size w (w.alloc (.cells #[.int .i64 m, .int .i64 f, .bool gb, .slice A l c] 72)) := (Below.refl _ _).alloc (Nat.le_refl _) _
  have HSZ := Lib.hid hsz
  clear hsz HC
  generalize w.alloc (.cells #[.int .i64 m, .int .i64 f, .bool gb, .slice A l c] 72) = W0 at *
  go_loopw [6, 7] (fun v n wr => ∃ (j : Nat) (xs : List SecE), f + j ≤ m + 1 ∧ n = .int .i64 ((f + j : Nat) : Int) ∧ cntF ss f j = some (xs.map (·.s)) ∧ OwnsS (w.heap.size + 1) wr v xs ∧ (∀ x ∈ xs, Good x.A x.c x.s.data w) ∧ Below (w.heap.size + 1) W0 wr) (fun _ n _ => m + 1 - (intOf n).toNat)
  case atStart => exact ⟨0, [], by omega, rfl, rfl, ownsS_nil _ _, (fun x hx => by cases hx), Below.refl _ _⟩
  case round =>
    obtain ⟨j, xs, hj, rfl, hc, hown, hgd, hbe⟩ := hrel
    obtain ⟨nn, hnn⟩ : ∃ nn, f + j = nn := ⟨_, rfl⟩
    rw [hnn]
    have z0 : wr.cell? ⟨w.heap.size, 0, none⟩ = some (.int .i64 m) := (hbe.cell (p := ⟨w.heap.size, 0, none⟩) (by show w.heap.size < w.heap.size + 1; omega)).trans d0
    have hwr : Below w.heap.size w wr := hB0.trans (hbe.mono (by omega))
    have hs1 : w.heap.size + 1 ≤ wr.heap.size := by have := hbe.size; rw [HSZ.out] at this; exact this
    have HNN := Lib.hid hnn
    have HCC := Lib.hid hc
    by_cases hle : nn ≤ m
    · have hlei : (nn : Int) ≤ (m : Int) := by omega
      have hled : decide (nn ≤ m) = true := by simpa using hle
      obtain ⟨q, hq⟩ : ∃ q, placeOf N nn = q := ⟨_, rfl⟩
      have hqN : q < N := by rw [← hq]; exact placeOf_lt _ _ hN1
      have hqi : (q : Int) < (N : Int) := by omega
      have c1 := fun W => place_any nn N q (by omega) (by omega) hN1 hN hq W
      have hql : q < ss.length := by rw [HL.out]; exact hqN
      obtain ⟨As, cs, hrow, hg⟩ := G.out.2 q ss[q] (List.getElem?_eq_getElem hql)
      have HST := Lib.hid (show cntF ss f (j + 1) = if ss[q].n = nn then some (xs.map (·.s) ++ [ss[q]]) else none by
        rw [cntF, hc]
        simp only
        rw [HL.out, hnn, hq, List.getElem?_eq_getElem hql, Option.getD_some])
      have hxl : xs.length ≤ 512 := by
        have e1 := cntF_len ss f j _ hc
        have e2 := cntF_le ss f j _ (by rw [HL.out]; omega) hf hc
        rw [HL.out] at e2
        rw [List.length_map] at e1
        omega
      generalize ss[q] = s at *
      obtain ⟨x0, x1, x2, x3⟩ := range_four (rangeAt_of_block' (hwr.block b hbl) hrow) rfl
      rw [Nat.zero_add] at x0 x1 x2 x3
      clear hnn hc hq hrow hql
      by_cases hne : s.n = nn
      · have hnd : ((s.n : Int) != (nn : Int)) = false := by simp [hne]
        have hnd2 : (s.n != nn) = false := by simp [hne]
        have HE := Lib.hid hne
        clear hne
        go_wp2_with (first | (go_at_call 41; refine (c1 _).mono ?_; rintro e w' ⟨rfl, rfl⟩) | (at_builtin; refine wpList_appendS rfl _ _ rfl (w.heap.size + 1) _ xs rfl ((hown.alloc _).alloc _) ⟨s, As, cs⟩ _ _ rfl (range_newS2 _ _ ⟨s, As, cs⟩) (by omega) (by simp; omega) W0 ((hbe.alloc hs1 _).alloc (by simp; omega) _) ?_; intro v2 w2 own2 be2))
        go_roundw
        case rel =>
          refine ⟨j + 1, xs ++ [⟨s, As, cs⟩], by have := HNN.out; omega, by have := HNN.out; rw [show f + (j + 1) = nn + 1 by omega]; go_num, ?_, own2, ?_, be2⟩
          · rw [HST.out, if_pos HE.out, List.map_append]; rfl
          · intro x hx
            rcases List.mem_append.1 hx with h | h
            · exact hgd x h
            · rw [List.mem_singleton.1 h]; exact hg
        case measure => simp [intOf]; omega
      · have hnd : ((s.n : Int) != (nn : Int)) = true := by simp; omega
        have hnd2 : (s.n != nn) = true := by simp; omega
        have HE := Lib.hid hne
        clear hne
        go_wp2_with (go_at_call 41; refine (c1 _).mono ?_; rintro e w' ⟨rfl, rfl⟩)
        go_ret2
        refine ⟨below_more hwr ((Below.refl _ _).alloc (Nat.le_refl _) _) (Nat.le_refl _), .inr ⟨?_, rfl⟩⟩
        have h1 : cntF ss f (j + 1) = none := by rw [HST.out, if_neg HE.out]
        have h2 := cntF_more ss f (j + 1) h1 (k - (j + 1))
        rw [show j + 1 + (k - (j + 1)) = k by have := HNN.out; have := HK.out; omega] at h2
        exact h2
    · have hlei : ¬ ((nn : Int) ≤ (m : Int)) := by omega
      have hled : decide (nn ≤ m) = false := by simpa using hle
      clear hnn hc
      go_wp2
      go_ret2
      refine ⟨hwr, .inl ⟨_, xs, ?_, rfl, hown.base (by omega), fun x hx => (hgd x hx).below hwr⟩⟩
      rw [show k = j by have := HNN.out; have := HK.out; omega]
      exact HCC.out
end Go.Proofs.Ytdmkkfpbgpijjaa
