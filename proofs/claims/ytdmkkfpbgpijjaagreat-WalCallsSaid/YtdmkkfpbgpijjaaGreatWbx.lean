/- WalCalls: a log with its disk and the document's with its own, apart from one another. WalCalls: one call on both logs. -/
import Derived.Test.YtdmkkfpbgpijjaaGreatWbh
import Derived.Test.YtdmkkfpbgpijjaaGreatWbv
import Derived.Test.YtdmkkfpbgpijjaaGreatWbw
namespace Go.Proofs.YtdmkkfpbgpijjaaGreat
open Go.RowKit Go.Deep
set_option linter.unusedVariables false

/-- What the sectors tell, as numbers that can be. -/
theorem secsFrom_data (S : List (List Int)) (N : Nat) (hl : S.length = N) (h1 : 1 ≤ N) (hs : ∀ i, i < N → (secAt S i).length = 32 ∧ isBytes (secAt S i)) (f : Nat) : ∀ k ss, secsFrom S f k = some ss → ss.length = k ∧ ∀ s ∈ ss, s.data.length ≤ 16 := by
  intro k
  induction k with
  | zero => intro ss h; simp only [secsFrom, Option.some.injEq] at h; subst h; exact ⟨rfl, fun s hs => by cases hs⟩
  | succ k ih =>
    intro ss h
    rw [secsFrom] at h
    cases h1' : secsFrom S f k with
    | none => rw [h1'] at h; simp at h
    | some cs =>
      cases h2 : secN S (f + k) with
      | none => rw [h1', h2] at h; simp at h
      | some s =>
        rw [h1', h2] at h
        simp only [Option.some.injEq] at h
        obtain ⟨e1, e2⟩ := ih cs h1'
        obtain ⟨_, hr⟩ := secN_some h2
        rw [hl] at hr
        obtain ⟨q1, q2⟩ := hs _ (placeOf_lt N (f + k) (by omega))
        have := (readS_ok q1 q2 hr).1
        subst h
        refine ⟨by simp [e1], fun x hx => ?_⟩
        rcases List.mem_append.1 hx with y | y
        · exact e2 x y
        · rw [List.mem_singleton.1 y]; exact this
theorem tells_log {N : Nat} {st : St} (hw : Wf N st) (hb : BytesD st) (h1 : 1 ≤ N) {lg : LogD} {rs : List RecD} (h : tells (nows st) = some (lg, rs)) : LogOK N lg ∧ 3 * rs.length ≤ 16 * N := by
  have hl := hw.nows_len
  have hs : ∀ i, i < N → (secAt (nows st) i).length = 32 ∧ isBytes (secAt (nows st) i) := fun i hi => ⟨hw.now_len hi, now_bytes hb hw i hi⟩
  generalize nows st = S at *
  by_cases hz : lastN S = 0
  · rw [tells_zero S hz] at h
    simp only [Option.some.injEq, Prod.mk.injEq] at h
    obtain ⟨rfl, rfl⟩ := h
    exact ⟨logOK_new N h1, by simp⟩
  · have hsl := secN_last S hz
    obtain ⟨la, hla⟩ : ∃ la, lastN S = la := ⟨_, rfl⟩
    rw [hla] at hsl hz
    generalize lastL (thereL S) = s at hsl
    by_cases hc : s.first < 1 ∨ la < s.first ∨ S.length ≤ la - s.first
    · rw [tells_t1 S la s hla hz hsl hc] at h; cases h
    · cases h2 : secsFrom S s.first (la - s.first + 1) with
      | none => rw [tells_t2 S la s hla hz hsl hc h2] at h; cases h
      | some ss =>
        cases h3 : (rowsAcc [] ss).all rowOK with
        | false => rw [tells_t3 S la s hla hz hsl hc ss h2 h3] at h; cases h
        | true =>
          rw [tells_t4 S la s hla hz hsl hc ss h2 h3] at h
          simp only [Option.some.injEq, Prod.mk.injEq] at h
          obtain ⟨rfl, rfl⟩ := h
          obtain ⟨e1, e2⟩ := secsFrom_data S N hl h1 hs s.first _ ss h2
          obtain ⟨hn, hr⟩ := secN_some hsl
          rw [hl] at hr hc
          obtain ⟨q1, q2⟩ := hs _ (placeOf_lt N la (by omega))
          obtain ⟨_, r2, r3, _⟩ := readS_ok q1 q2 hr
          have h4 := recs_sum (rowsAcc [] ss)
          rw [rowsAcc_sum] at h4
          have h5 := sum_le16 ss e2
          simp only [List.length_nil, Nat.zero_add] at h4
          refine ⟨⟨?_, ?_, ?_, ?_, ?_, ?_⟩, by omega⟩ <;> dsimp only <;> omega
theorem nOf_le (rs : List RecD) : nOf rs ≤ 2 * rs.length := by
  have h := joinL_le rs
  unfold nOf secsN
  omega
theorem appS_len (N : Nat) (lg : LogD) (st : St) (rs : List RecD) : (appS N lg st rs).cache.length = st.cache.length + nOf rs := by
  unfold appS
  rw [List.length_append, puts_length, laySecs_length]; rfl
theorem chkS_len (N : Nat) (lg : LogD) (st : St) (rs : List RecD) : (chkS N lg st rs).cache.length = st.cache.length + nOf rs + 1 := by
  unfold chkS chkSecs
  rw [List.length_append, puts_length, List.length_append, laySecs_length]; rfl
theorem bytes_write {n : Nat} {st : St} (h : BytesD st) (i : Int) (zs : List Int) (hz : isBytes zs) : BytesD (writeT n st i zs) := by
  unfold writeT
  split <;> (try split) <;> try exact h
  refine ⟨h.1, fun p hp => ?_⟩
  simp only [writeS, List.mem_append, List.mem_singleton] at hp
  rcases hp with y | y
  · exact h.2 p y
  · rw [y]; exact hz

/-- Two logs and their disks. -/
structure Pair (B : Nat) (w0 : World) (X : Nat → Prop) (w : World) (lb db gb rb N : Nat) (sd : St) (ld : LogD) (sr : St) (lr : LogD) : Prop where
  ex : ∃ FL FD G, LogSt LI5 w FL FD lb db N sd ld ∧ RLogAt w G gb rb N sr lr ∧ (∀ k, FL k ∨ FD k → B ≤ k ∧ ¬ X k ∧ ¬ (G k ∨ k = gb)) ∧ (∀ k, G k ∨ k = gb → B ≤ k ∧ ¬ X k)
  xlt : ∀ k, X k → k < w.heap.size
  below : Below B w0 w
  size : B ≤ w.heap.size
theorem RLogAt.moves {w w' : World} {G F : Nat → Prop} {gb rb N : Nat} {st : St} {lg : LogD} (h : RLogAt w G gb rb N st lg) (hm : Moves F w w') (hd : ∀ k, G k ∨ k = gb → ¬ F k) : RLogAt w' G gb rb N st lg :=
  ⟨h.log.kept (hm.block gb h.log.lt (hd gb (.inr rfl))), h.disk.moves hm (fun k hk => hd k (.inl hk)), h.apart⟩
theorem Pair.l {B : Nat} {w0 w : World} {X : Nat → Prop} {lb db gb rb N : Nat} {sd sd' sr : St} {ld ld' lr : LogD} {f : FuncId} {args : Array Value} {v : Value} (h : Pair B w0 X w lb db gb rb N sd ld sr lr) (hc : ∀ FL FD, LogSt LI5 w FL FD lb db N sd ld → Calls Tryz.prog f args w (LogDoes LI5 FL FD lb db N sd' ld' v w)) :
    Calls Tryz.prog f args w fun e w' => e = .returned v ∧ Pair B w0 X w' lb db gb rb N sd' ld' sr lr ∧ ∀ k, X k → w'.heap[k]? = w.heap[k]? := by
  obtain ⟨FL, FD, G, h1, h2, h3, h4⟩ := h.ex
  refine (hc FL FD h1).mono ?_
  rintro e w' ⟨rfl, hm, FL', FD', h1', k1, k2⟩
  have hS := h.size
  have hold : ∀ k, FL' k ∨ FD' k → FL k ∨ FD k ∨ w.heap.size ≤ k := by
    rintro k (y | y)
    · rcases k1 k y with z | z
      · exact .inl z
      · exact .inr (.inr z)
    · rcases k2 k y with z | z
      · exact .inr (.inl z)
      · exact .inr (.inr z)
  refine ⟨rfl, ⟨⟨FL', FD', G, h1', h2.moves hm (fun k hk hf => (h3 k hf).2.2 hk), fun k hk => ?_, h4⟩, fun k hk => Nat.lt_of_lt_of_le (h.xlt k hk) hm.size, h.below.trans (hm.below hS (fun k hk => (h3 k hk).1)), Nat.le_trans hS hm.size⟩, fun k hk => hm.block k (h.xlt k hk) (fun hf => (h3 k hf).2.1 hk)⟩
  rcases hold k hk with y | y | y
  · exact h3 k (.inl y)
  · exact h3 k (.inr y)
  · refine ⟨by omega, fun x => by have := h.xlt k x; omega, ?_⟩
    rintro (z | z)
    · have := h2.disk.lt k z; omega
    · have := h2.log.lt; omega
theorem Pair.r {B : Nat} {w0 w : World} {X : Nat → Prop} {lb db gb rb N : Nat} {sd sr sr' : St} {ld lr lr' : LogD} {f : FuncId} {args : Array Value} {v : Value} (h : Pair B w0 X w lb db gb rb N sd ld sr lr) (hc : ∀ G, RLogAt w G gb rb N sr lr → Calls Tryz.prog f args w (RLogDoes G gb rb N sr' lr' v w)) :
    Calls Tryz.prog f args w fun e w' => e = .returned v ∧ Pair B w0 X w' lb db gb rb N sd ld sr' lr' ∧ ∀ k, X k → w'.heap[k]? = w.heap[k]? := by
  obtain ⟨FL, FD, G, h1, h2, h3, h4⟩ := h.ex
  refine (hc G h2).mono ?_
  rintro e w' ⟨rfl, h2', hm⟩
  have hS := h.size
  refine ⟨rfl, ⟨⟨FL, FD, _, h1.kept walOK hm (fun k hk hf => (h3 k (.inl hk)).2.2 hf) (fun k hk hf => (h3 k (.inr hk)).2.2 hf), h2', fun k hk => ⟨(h3 k hk).1, (h3 k hk).2.1, ?_⟩, fun k hk => ?_⟩, fun k hk => Nat.lt_of_lt_of_le (h.xlt k hk) hm.size, h.below.trans (hm.below hS (fun k hk => (h4 k hk).1)), Nat.le_trans hS hm.size⟩, fun k hk => hm.block k (h.xlt k hk) (fun hf => (h4 k hf).2 hk)⟩
  · have hlt : k < w.heap.size := hk.elim (fun y => walOK.lt h1.log k y) (fun y => h1.disk.lt k y)
    rintro ((y | y) | y)
    · exact (h3 k hk).2.2 (.inl y)
    · omega
    · exact (h3 k hk).2.2 (.inr y)
  · rcases hk with (y | y) | y
    · exact h4 k (.inl y)
    · exact ⟨by omega, fun x => by have := h.xlt k x; omega⟩
    · exact h4 k (.inr y)
theorem Pair.d {B : Nat} {w0 w : World} {X : Nat → Prop} {lb db gb rb N : Nat} {sd sd' sr : St} {ld lr : LogD} {f : FuncId} {args : Array Value} {v : Value} (h : Pair B w0 X w lb db gb rb N sd ld sr lr) (hb : BytesD sd') (hc : ∀ FD, DiskAt w FD db N sd → Calls Tryz.prog f args w (Does FD db N sd' v w)) :
    Calls Tryz.prog f args w fun e w' => e = .returned v ∧ Pair B w0 X w' lb db gb rb N sd' ld sr lr ∧ ∀ k, X k → w'.heap[k]? = w.heap[k]? := by
  refine h.l (fun FL FD h1 => (hc FD h1.disk).mono ?_)
  rintro e w' ⟨rfl, hd, hm⟩
  refine ⟨rfl, hm.mono (fun k hk => .inr hk), FL, _, ⟨walOK.kept h1.log hm h1.apart, hd, fun k hk => ?_, h1.ok, hb⟩, fun k hk => .inl hk, fun k hk => ?_⟩
  · rintro (y | y)
    · exact h1.apart k hk y
    · have := walOK.lt h1.log k hk; omega
  · rcases hk with y | y
    · exact .inl y
    · exact .inr y.1
theorem Pair.rd {B : Nat} {w0 w : World} {X : Nat → Prop} {lb db gb rb N : Nat} {sd sr sr' : St} {ld lr : LogD} {f : FuncId} {args : Array Value} {v : Value} (h : Pair B w0 X w lb db gb rb N sd ld sr lr) (hc : ∀ G, RefAt w G rb N sr → Calls Tryz.prog f args w (RDoes G rb N sr' v w)) :
    Calls Tryz.prog f args w fun e w' => e = .returned v ∧ Pair B w0 X w' lb db gb rb N sd ld sr' lr ∧ ∀ k, X k → w'.heap[k]? = w.heap[k]? := by
  refine h.r (fun G h2 => (hc G h2.disk).mono ?_)
  rintro e w' ⟨rfl, hd, hm⟩
  exact ⟨rfl, ⟨h2.log.kept (hm.block gb h2.log.lt h2.apart), hd, not_grow h2.apart h2.log.lt⟩, hm.mono (fun k hk => .inl hk)⟩
theorem Pair.keep {B : Nat} {w0 w w' : World} {X : Nat → Prop} {lb db gb rb N : Nat} {sd sr : St} {ld lr : LogD} (h : Pair B w0 X w lb db gb rb N sd ld sr lr) (hb : Below w.heap.size w w') : Pair B w0 X w' lb db gb rb N sd ld sr lr := by
  obtain ⟨FL, FD, G, h1, h2, h3, h4⟩ := h.ex
  exact ⟨⟨FL, FD, G, h1.below walOK hb, h2.below hb, h3, h4⟩, fun k hk => Nat.lt_of_lt_of_le (h.xlt k hk) hb.size, h.below.trans (hb.mono h.size), Nat.le_trans h.size hb.size⟩
/-- What is new may be X's, too. -/
theorem Pair.fresh {B : Nat} {w0 w w' : World} {X X' : Nat → Prop} {lb db gb rb N : Nat} {sd sr : St} {ld lr : LogD} (h : Pair B w0 X w lb db gb rb N sd ld sr lr) (hb : Below w.heap.size w w') (hX : ∀ k, X' k → w.heap.size ≤ k ∧ k < w'.heap.size) : Pair B w0 X' w' lb db gb rb N sd ld sr lr := by
  obtain ⟨FL, FD, G, h1, h2, h3, h4⟩ := h.ex
  refine ⟨⟨FL, FD, G, h1.below walOK hb, h2.below hb, fun k hk => ⟨(h3 k hk).1, fun x => ?_, (h3 k hk).2.2⟩, fun k hk => ⟨(h4 k hk).1, fun x => ?_⟩⟩, fun k hk => (hX k hk).2, h.below.trans (hb.mono h.size), Nat.le_trans h.size hb.size⟩
  · have hlt : k < w.heap.size := hk.elim (fun y => walOK.lt h1.log k y) (fun y => h1.disk.lt k y)
    have := (hX k x).1; omega
  · have hlt : k < w.heap.size := hk.elim (fun y => h2.disk.lt k y) (fun y => by rw [y]; exact h2.log.lt)
    have := (hX k x).1; omega
theorem Pair.less {B : Nat} {w0 w : World} {X : Nat → Prop} {lb db gb rb N : Nat} {sd sr : St} {ld lr : LogD} (h : Pair B w0 X w lb db gb rb N sd ld sr lr) : Pair B w0 (fun _ => False) w lb db gb rb N sd ld sr lr := by
  obtain ⟨FL, FD, G, h1, h2, h3, h4⟩ := h.ex
  exact ⟨⟨FL, FD, G, h1, h2, fun k hk => ⟨(h3 k hk).1, fun e => e, (h3 k hk).2.2⟩, fun k hk => ⟨(h4 k hk).1, fun e => e⟩⟩, fun k hk => hk.elim, h.below, h.size⟩
theorem Pair.both {B : Nat} {w0 w : World} {X : Nat → Prop} {lb db gb rb N : Nat} {sd sr : St} {ld lr : LogD} (h : Pair B w0 X w lb db gb rb N sd ld sr lr) : Both B w0 X w db rb N sd sr := by
  obtain ⟨FL, FD, G, h1, h2, h3, h4⟩ := h.ex
  exact ⟨FD, G, h1.disk, h2.disk, fun k hf hg => (h3 k (.inr hf)).2.2 (.inl hg), fun k hf => (h3 k (.inr hf)).1, fun k hg => (h4 k (.inl hg)).1, fun k hk => ⟨fun hf => (h3 k (.inr hf)).2.1 hk, fun hg => (h4 k (.inl hg)).2 hk, h.xlt k hk⟩, h.below, h.size⟩
/-- Both disks, opened. -/
theorem Both.pair {B : Nat} {w0 w w1 w2 : World} {X : Nat → Prop} {FL : Nat → Prop} {lb db gb rb N : Nat} {st : St} {lg : LogD} (h : Both B w0 X w db rb N st st) (hb : BytesD st) (ok : LogOK N lg) (b1 : Below w.heap.size w w1) (l1 : LI5 w1 FL lb db lg) (f1 : ∀ k, FL k → w.heap.size ≤ k) (b2 : Below w1.heap.size w1 w2) (r : RLogIn w2 gb rb lg) (hg : w1.heap.size ≤ gb) : Pair B w0 X w2 lb db gb rb N st lg st lg := by
  obtain ⟨F, G, h1, h2, h3, h4, h5, h6, h7, h8⟩ := h
  have s1 := b1.size
  have s2 := b2.size
  have l2 : LI5 w2 FL lb db lg := walOK.kept l1 (moves_of_below (F := fun _ => False) b2) (fun _ _ e => e)
  have b3 := below_more b1 b2 (Nat.le_refl _)
  refine ⟨⟨FL, F, G, ⟨l2, h1.below b3, fun k hk hf => ?_, ok, hb⟩, ⟨r, h2.below b3, fun e => ?_⟩, fun k hk => ?_, fun k hk => ?_⟩, fun k hk => ?_, h7.trans (b3.mono h8), by omega⟩
  · have := f1 k hk; have := h1.lt k hf; omega
  · have := h2.lt gb e; omega
  · rcases hk with y | y
    · have hlt := walOK.lt l1 k y
      have := f1 k y
      refine ⟨by omega, fun x => by have := (h6 k x).2.2; omega, ?_⟩
      rintro (z | z)
      · have := h2.lt k z; omega
      · omega
    · have := h1.lt k y
      refine ⟨h4 k y, fun x => (h6 k x).1 y, ?_⟩
      rintro (z | z)
      · exact h3 k y z
      · omega
  · rcases hk with y | y
    · exact ⟨h5 k y, fun x => (h6 k x).2.1 y⟩
    · exact ⟨by omega, fun x => by have := (h6 k x).2.2; omega⟩
  · have := (h6 k hk).2.2; omega
/-- What stands: two logs, or two disks without one. -/
def Stand (B : Nat) (w0 : World) (X : Nat → Prop) (w : World) (db rb N : Nat) (st : St) (l x : Value) : Prop :=
  (∃ lb gb lg, l = .pointer (some ⟨lb, 0, none⟩) ∧ x = .pointer (some ⟨gb, 0, none⟩) ∧ Pair B w0 X w lb db gb rb N st lg st lg) ∨ (l = .pointer none ∧ x = .pointer none ∧ Both B w0 X w db rb N st st)
end Go.Proofs.YtdmkkfpbgpijjaaGreat
namespace Go.Proofs.YtdmkkfpbgpijjaaGreat
open Go.RowKit Go.Deep
set_option linter.unusedVariables false

theorem both_append (N : Nat) (st : St) (lg : LogD) (rs : List RecD) (r : Nat) (spare : Int) (h1 : 1 ≤ N) (h2 : N ≤ 60) (ok5 : LogOK N lg) (hl : rs.length = r) (hl2 : r ≤ 200) (ok : ∀ x ∈ rs, okR x) (hs : isI64 spare) (hc : st.cache.length + 2 * r ≤ 900) :
    ∃ s' lg' q, (∀ A c FL FD lb db w, LogSt LI5 w FL FD lb db N st lg → GoodR A c rs w → Calls Tryz.prog 10 #[.pointer (some ⟨lb, 0, none⟩), .slice A r c, .int .i64 spare] w (LogDoes LI5 FL FD lb db N s' lg' (.int .i64 q) w)) ∧
      (∀ A c G gb rb w, RLogAt w G gb rb N st lg → GoodR A c rs w → Calls Tryz.prog 11 #[.pointer (some ⟨gb, 0, none⟩), .slice A r c, .int .i64 spare] w (RLogDoes G gb rb N s' lg' (.int .i64 q) w)) ∧ s'.cache.length ≤ st.cache.length + 2 * r := by
  have hn := nOf_le rs
  rw [hl] at hn
  by_cases hq : fitsE N lg rs 0 spare = 0
  · exact ⟨appS N lg st rs, appL lg rs, 0, fun A c FL FD lb db w h g => walOK.app_yes FL FD lb db N st lg A r c rs spare w h hl hl2 ok g hs (by omega) hq, fun A c G gb rb w h g => refAppend G gb rb N st lg A r c rs spare w h h1 h2 ok5 hl hl2 ok g hs (by omega) hq, by rw [appS_len]; omega⟩
  · exact ⟨st, lg, fitsE N lg rs 0 spare, fun A c FL FD lb db w h g => walOK.app_no FL FD lb db N st lg A r c rs spare _ w h hl hl2 ok g hs rfl hq, fun A c G gb rb w h g => refAppend_no G gb rb N st lg A r c rs spare _ w h h2 ok5 hl hl2 ok g hs rfl hq, by omega⟩
theorem both_check (N : Nat) (st : St) (lg : LogD) (rs : List RecD) (r : Nat) (spare : Int) (h1 : 1 ≤ N) (h2 : N ≤ 60) (ok5 : LogOK N lg) (hl : rs.length = r) (hl2 : r ≤ 200) (ok : ∀ x ∈ rs, okR x) (hs : isI64 spare) (hc : st.cache.length + 2 * r ≤ 900) :
    ∃ s' lg' q, (∀ A c FL FD lb db w, LogSt LI5 w FL FD lb db N st lg → GoodR A c rs w → Calls Tryz.prog 14 #[.pointer (some ⟨lb, 0, none⟩), .slice A r c, .int .i64 spare] w (LogDoes LI5 FL FD lb db N s' lg' (.int .i64 q) w)) ∧
      (∀ A c G gb rb w, RLogAt w G gb rb N st lg → GoodR A c rs w → Calls Tryz.prog 15 #[.pointer (some ⟨gb, 0, none⟩), .slice A r c, .int .i64 spare] w (RLogDoes G gb rb N s' lg' (.int .i64 q) w)) ∧ s'.cache.length ≤ st.cache.length + 2 * r + 1 := by
  have hn := nOf_le rs
  rw [hl] at hn
  by_cases hq : fitsE N lg rs 1 spare = 0
  · exact ⟨chkS N lg st rs, chkL lg rs, 0, fun A c FL FD lb db w h g => walOK.chk_yes FL FD lb db N st lg A r c rs spare w h hl hl2 ok g hs (by omega) hq, fun A c G gb rb w h g => refCheck G gb rb N st lg A r c rs spare w h h1 h2 ok5 hl hl2 ok g hs (by omega) hq, by rw [chkS_len]; omega⟩
  · exact ⟨st, lg, fitsE N lg rs 1 spare, fun A c FL FD lb db w h g => walOK.chk_no FL FD lb db N st lg A r c rs spare _ w h hl hl2 ok g hs rfl hq, fun A c G gb rb w h g => refCheck_no G gb rb N st lg A r c rs spare _ w h h2 ok5 hl hl2 ok g hs rfl hq, by omega⟩
theorem Pair.okl {B : Nat} {w0 w : World} {X : Nat → Prop} {lb db gb rb N : Nat} {sd sr : St} {ld lr : LogD} (h : Pair B w0 X w lb db gb rb N sd ld sr lr) : LogOK N ld ∧ BytesD sd ∧ Wf N sd := by
  obtain ⟨FL, FD, G, h1, h2, h3, h4⟩ := h.ex
  exact ⟨h1.ok, h1.bytes, h1.disk.wf⟩
/-- Both disks opened: what wal.Open answers. -/
theorem open_both {B : Nat} {w0 w : World} {X : Nat → Prop} {db rb N : Nat} {st : St} (h : Both B w0 X w db rb N st st) (hb : BytesD st) (lg : LogD) (rs : List RecD) (ht : tells (nows st) = some (lg, rs)) : Calls Tryz.prog 8 #[.pointer (some ⟨db, 0, none⟩)] w (OpenYes LI5 db lg rs w) := by
  obtain ⟨F, G, h1, h2, _⟩ := h
  exact walOK.open_yes F db N st lg rs w h1 hb ht
theorem open_none {B : Nat} {w0 w : World} {X : Nat → Prop} {db rb N : Nat} {st : St} (h : Both B w0 X w db rb N st st) (hb : BytesD st) (ht : tells (nows st) = none) : Calls Tryz.prog 8 #[.pointer (some ⟨db, 0, none⟩)] w fun e w' => e = .returned (.tuple #[.pointer none, .slice none 0 0, .int .i64 21]) ∧ Below w.heap.size w w' := by
  obtain ⟨F, G, h1, h2, _⟩ := h
  exact walOK.open_no F db N st w h1 hb ht
/-- The document's All, as a hypothesis. -/
def AllAns : Prop := ∀ (A : Option Addr) (l c : Nat) (zs : List Int), zs.length = l → l ≤ 3000 → isBytes zs → ∀ W : World, Good A c zs W → Calls Tryz.prog 38 #[.slice A l c] W (AllSays zs W)
theorem ropen_both (HA : AllAns) {B : Nat} {w0 w : World} {X : Nat → Prop} {db rb N : Nat} {st : St} (h : Both B w0 X w db rb N st st) (hb : BytesD st) (h1 : 1 ≤ N) (h2 : N ≤ 60) (hc : st.cache.length ≤ 1000) (t : Option (LogD × List RecD)) (ht : tells (nows st) = t) : Calls Tryz.prog 9 #[.pointer (some ⟨rb, 0, none⟩)] w (ROpenSays t rb w) := by
  obtain ⟨F, G, k1, k2, _⟩ := h
  have := refOpen_of HA G rb N st (nows st) w k2 rfl k1.wf hb h1 h2 hc
  rwa [ht] at this
theorem Stand.keep {B : Nat} {w0 w w' : World} {X : Nat → Prop} {db rb N : Nat} {st : St} {l x : Value} (h : Stand B w0 X w db rb N st l x) (hb : Below w.heap.size w w') : Stand B w0 X w' db rb N st l x := by
  rcases h with ⟨lb, gb, lg, e1, e2, hp⟩ | ⟨e1, e2, hp⟩
  · exact .inl ⟨lb, gb, lg, e1, e2, hp.keep hb⟩
  · exact .inr ⟨e1, e2, hp.below hb⟩
theorem Stand.less {B : Nat} {w0 w : World} {X : Nat → Prop} {db rb N : Nat} {st : St} {l x : Value} (h : Stand B w0 X w db rb N st l x) : Stand B w0 (fun _ => False) w db rb N st l x := by
  rcases h with ⟨lb, gb, lg, e1, e2, hp⟩ | ⟨e1, e2, hp⟩
  · exact .inl ⟨lb, gb, lg, e1, e2, hp.less⟩
  · exact .inr ⟨e1, e2, hp.less⟩
theorem Stand.both {B : Nat} {w0 w : World} {X : Nat → Prop} {db rb N : Nat} {st : St} {l x : Value} (h : Stand B w0 X w db rb N st l x) : Both B w0 X w db rb N st st := by
  rcases h with ⟨lb, gb, lg, e1, e2, hp⟩ | ⟨e1, e2, hp⟩
  · exact hp.both
  · exact hp
theorem Pair.free {B : Nat} {w0 w : World} {X : Nat → Prop} {lb db gb rb N : Nat} {sd sr : St} {ld lr : LogD} (h : Pair B w0 X w lb db gb rb N sd ld sr lr) (q : Int) (hq : (N : Int) - ld.next + ld.sure = q) : Calls Tryz.prog 21 #[.pointer (some ⟨lb, 0, none⟩)] w fun e w' => e = .returned (.int .i64 q) ∧ Below w.heap.size w w' := by
  obtain ⟨FL, FD, G, h1, h2, h3, h4⟩ := h.ex
  have := walOK.free FL FD lb db N sd ld w h1
  rwa [hq] at this
theorem Pair.rfree {B : Nat} {w0 w : World} {X : Nat → Prop} {lb db gb rb N : Nat} {sd : St} {ld : LogD} (h : Pair B w0 X w lb db gb rb N sd ld sd ld) (h2 : N ≤ 60) (q : Int) (hq : (N : Int) - ld.next + ld.sure = q) : Calls Tryz.prog 22 #[.pointer (some ⟨gb, 0, none⟩)] w fun e w' => e = .returned (.int .i64 q) ∧ Below w.heap.size w w' := by
  obtain ⟨FL, FD, G, k1, k2, h3, h4⟩ := h.ex
  have o := k1.ok
  exact refFree G gb rb N sd ld q h2 o.next (Nat.le_trans o.sure o.next) hq w k2
theorem Pair.next {B : Nat} {w0 w : World} {X : Nat → Prop} {lb db gb rb N : Nat} {sd sr : St} {ld lr : LogD} (h : Pair B w0 X w lb db gb rb N sd ld sr lr) (q : Nat) (hq : ld.next = q) : Calls Tryz.prog 23 #[.pointer (some ⟨lb, 0, none⟩)] w fun e w' => e = .returned (.int .i64 (q : Int)) ∧ Below w.heap.size w w' := by
  obtain ⟨FL, FD, G, h1, h2, h3, h4⟩ := h.ex
  have := walOK.next FL FD lb db N sd ld w h1
  rwa [hq] at this
theorem Pair.first {B : Nat} {w0 w : World} {X : Nat → Prop} {lb db gb rb N : Nat} {sd sr : St} {ld lr : LogD} (h : Pair B w0 X w lb db gb rb N sd ld sr lr) (q : Nat) (hq : ld.first = q) : Calls Tryz.prog 24 #[.pointer (some ⟨lb, 0, none⟩)] w fun e w' => e = .returned (.int .i64 (q : Int)) ∧ Below w.heap.size w w' := by
  obtain ⟨FL, FD, G, h1, h2, h3, h4⟩ := h.ex
  have := walOK.first FL FD lb db N sd ld w h1
  rwa [hq] at this
theorem Pair.rcells {B : Nat} {w0 w : World} {X : Nat → Prop} {lb db gb rb N : Nat} {sd sr : St} {ld lr : LogD} (h : Pair B w0 X w lb db gb rb N sd ld sr lr) : w.cell? ⟨gb, 1, none⟩ = some (.int .i64 (lr.next : Int)) ∧ w.cell? ⟨gb, 2, none⟩ = some (.int .i64 (lr.first : Int)) ∧ gb < w.heap.size := by
  obtain ⟨FL, FD, G, h1, h2, h3, h4⟩ := h.ex
  exact ⟨h2.log.c1, h2.log.c2, h2.log.lt⟩
theorem image_both {B : Nat} {w0 w : World} {X : Nat → Prop} {db rb N : Nat} {st : St} (h : Both B w0 X w db rb N st st) (h2 : N ≤ 60) (fz : List Int) (hz : st.safe.flatten = fz) : Calls Tryz.prog 26 #[.pointer (some ⟨db, 0, none⟩)] w (GivesB fz w) := by
  obtain ⟨F, G, k1, k2, _⟩ := h
  exact image_at F db N st fz w k1 (by omega) hz
theorem rimage_both {B : Nat} {w0 w : World} {X : Nat → Prop} {db rb N : Nat} {st : St} (h : Both B w0 X w db rb N st st) (fz : List Int) (hz : st.safe.flatten = fz) : Calls Tryz.prog 27 #[.pointer (some ⟨rb, 0, none⟩)] w (GivesB fz w) := by
  obtain ⟨F, G, k1, k2, _⟩ := h
  exact rimage_any G rb N st fz w k2 hz
theorem loose_both {B : Nat} {w0 w : World} {X : Nat → Prop} {db rb N : Nat} {st : St} (h : Both B w0 X w db rb N st st) (q : Nat) (hq : st.cache.length = q) : Calls Tryz.prog 28 #[.pointer (some ⟨db, 0, none⟩)] w fun e w' => e = .returned (.int .i64 q) ∧ w = w' := by
  obtain ⟨F, G, k1, k2, _⟩ := h
  exact loose_at F db N q st w k1 hq
theorem image_len {B : Nat} {w0 w : World} {X : Nat → Prop} {db rb N : Nat} {st : St} (h : Both B w0 X w db rb N st st) : st.safe.flatten.length = 32 * N := by
  obtain ⟨F, G, k1, k2, _⟩ := h
  exact flat_len st.safe k1.wf.len k1.wf.secs
end Go.Proofs.YtdmkkfpbgpijjaaGreat
