/- The program's table and the document's own, side by side: what either of them answers is the other's answer; their calls, one by one. -/
import Derived.Test.YtnfodidfhnofkaaIo
import Derived.Test.YtnfodidfhnofkaaIn
import Derived.Test.YtnfodidfhnofkaaBw
import Derived.Test.YtnfodidfhnofkaaIp
import Derived.Test.YtnfodidfhnofkaaBx
namespace Go.Proofs.Ytnfodidfhnofkaa
open Go.RowKit Go.Deep Go.Maps Go.Lib

/-! ### What either answers is the other's answer -/

theorem mem_hsOf {l : List RHold} {k : KeyT} {p : Int × Int} : p ∈ hsOf l k ↔ ∃ x ∈ l, x.key = k ∧ pairOf x = p := by
  unfold hsOf
  simp only [List.mem_map, List.mem_filter, ofKey, decide_eq_true_eq]
  constructor
  · rintro ⟨x, ⟨h1, h2⟩, h3⟩; exact ⟨x, h1, h2, h3⟩
  · rintro ⟨x, h1, h2, h3⟩; exact ⟨x, ⟨h1, h2⟩, h3⟩
theorem RelQ.holder {st : PS} {rs : RS} (h : RelQ st rs) {tx : Int} {k : KeyT} : howH (st.row k).hs tx ≠ 0 ↔ ∃ x ∈ rs.holds, x.tx = tx ∧ x.key = k := by
  constructor
  · intro h0
    have h1 := howH_mem h0
    rw [← h.hs k] at h1
    obtain ⟨x, hx, e1, e2⟩ := mem_hsOf.1 h1
    exact ⟨x, hx, (congrArg Prod.fst e2), e1⟩
  · rintro ⟨x, hx, rfl, rfl⟩
    have h1 : pairOf x ∈ (st.row x.key).hs := by rw [← h.hs x.key]; exact mem_hsOf.2 ⟨x, hx, rfl, rfl⟩
    have h2 := howH_of_mem (h.inv.ok x.key).nd h1
    have h3 : howH (st.row x.key).hs x.tx = wantN x.ex := h2
    rw [h3]
    cases x.ex <;> decide
theorem RelQ.somebody {st : PS} {rs : RS} (h : RelQ st rs) {k : KeyT} : (st.row k).hs ≠ [] ↔ ∃ x ∈ rs.holds, x.key = k := by
  constructor
  · intro h0
    obtain ⟨p, hp⟩ := List.exists_mem_of_ne_nil _ h0
    rw [← h.hs k] at hp
    obtain ⟨x, hx, e1, -⟩ := mem_hsOf.1 hp
    exact ⟨x, hx, e1⟩
  · rintro ⟨x, hx, rfl⟩ e
    have h1 : pairOf x ∈ (st.row x.key).hs := by rw [← h.hs x.key]; exact mem_hsOf.2 ⟨x, hx, rfl, rfl⟩
    rw [e] at h1
    cases h1
theorem RelQ.keys {st : PS} {rs : RS} (h : RelQ st rs) {tx : Int} {l' : List KeyT} (hs : SortedK l') (hm : ∀ k, k ∈ l' ↔ ∃ x ∈ rs.holds, x.tx = tx ∧ x.key = k) : KeysL st (fun r => decide (howH r.hs tx ≠ 0)) l' :=
  ⟨hs, fun k => by
    rw [hm k, ← h.holder, h.inv.isSome]
    simp only [decide_eq_true_eq]
    refine ⟨fun e => ⟨fun e0 => ?_, e⟩, fun e => e.2⟩
    rw [e0] at e
    exact e rfl⟩
theorem RelQ.held {st : PS} {rs : RS} (h : RelQ st rs) {l' : List KeyT} (hs : SortedK l') (hm : ∀ k, k ∈ l' ↔ ∃ x ∈ rs.holds, x.key = k) : KeysL st (fun _ => true) l' :=
  ⟨hs, fun k => by
    rw [hm k, ← h.somebody, h.inv.isSome]
    exact ⟨fun e => ⟨e, rfl⟩, fun e => e.1⟩⟩
theorem RelQ.txs {st : PS} {rs : RS} (h : RelQ st rs) {l' : List Int} (hs : SortedN l') (hm : ∀ t, t ∈ l' ↔ ∃ x ∈ rs.holds ++ rs.queue, x.tx = t) : TxsL st l' :=
  ⟨hs, fun t => by
    rw [hm t]
    refine Iff.symm ⟨?_, ?_⟩
    · rintro ⟨k, h1 | h1⟩
      · obtain ⟨p, hp, rfl⟩ := List.mem_map.1 h1
        rw [← h.hs k] at hp
        obtain ⟨x, hx, -, e2⟩ := mem_hsOf.1 hp
        exact ⟨x, List.mem_append.2 (.inl hx), congrArg Prod.fst e2⟩
      · rw [← h.ws k] at h1
        obtain ⟨x, hx, -, e2⟩ := mem_wsOf.1 h1
        exact ⟨x, List.mem_append.2 (.inr hx), e2⟩
    · rintro ⟨x, hx, rfl⟩
      rcases List.mem_append.1 hx with hx | hx
      · exact ⟨x.key, .inl (List.mem_map.2 ⟨pairOf x, by rw [← h.hs x.key]; exact mem_hsOf.2 ⟨x, hx, rfl, rfl⟩, rfl⟩)⟩
      · exact ⟨x.key, .inr (by rw [← h.ws x.key]; exact mem_wsOf.2 ⟨x, hx, rfl, rfl⟩)⟩⟩
theorem RelQ.late {st : PS} {rs : RS} (h : RelQ st rs) {now : Int} {l' : List Int} (hs : SortedN l') (hm : ∀ t, t ∈ l' ↔ ∃ x ∈ rs.queue, lateQ rs.wait now x = true ∧ x.tx = t) : LateL st now l' :=
  ⟨hs, fun t => by
    rw [hm t]
    refine Iff.symm ⟨?_, ?_⟩
    · intro h1
      cases hp : st.wish t with
      | none => unfold lateB at h1; rw [hp] at h1; cases h1
      | some p =>
        obtain ⟨x, hx, rfl, -⟩ := h.in_queue hp
        have hw := h.wish x hx
        rw [hp] at hw
        cases hw
        unfold lateB at h1
        rw [hp] at h1
        exact ⟨x, hx, by unfold lateQ; rw [h.wait]; exact h1, rfl⟩
    · rintro ⟨x, hx, h1, rfl⟩
      unfold lateB
      rw [h.wish x hx]
      unfold lateQ at h1
      rw [h.wait] at h1
      exact h1⟩
theorem RelQ.queue_tx {st : PS} {rs : RS} (h : RelQ st rs) : ∀ x ∈ rs.queue, 1 ≤ x.tx ∧ 0 ≤ x.since ∧ x.since ≤ 1099511627776 := fun x hx => by
  have h1 : x.tx ∈ (st.row x.key).ws := by rw [← h.ws x.key]; exact mem_wsOf.2 ⟨x, hx, rfl, rfl⟩
  obtain ⟨_, _, _, _, _, h2, _⟩ := (h.inv.ok x.key).mem x.tx h1
  have h3 := (h.inv.all x.tx _ (h.wish x hx)).2
  exact ⟨h2, h3⟩
theorem RelQ.all_tx {st : PS} {rs : RS} (h : RelQ st rs) : ∀ x ∈ rs.holds ++ rs.queue, 1 ≤ x.tx := fun x hx => by
  rcases List.mem_append.1 hx with hx | hx
  · have h1 : pairOf x ∈ (st.row x.key).hs := by rw [← h.hs x.key]; exact mem_hsOf.2 ⟨x, hx, rfl, rfl⟩
    exact ((h.inv.ok x.key).rg _ h1).1
  · exact (h.queue_tx x hx).1
theorem RelQ.waitsK {st : PS} {rs : RS} (h : RelQ st rs) (tx : Int) : keyQ (waitsQ rs.queue tx) = keyW st tx ∧ (waitsQ rs.queue tx).isSome = (st.wish tx).isSome := by
  rw [h.waits tx]
  unfold keyQ keyW
  cases st.wish tx <;> exact ⟨rfl, rfl⟩
theorem RelQ.freed {st st' : PS} {rs : RS} (h : RelQ st rs) {tx : Int} (hf : FreeSays st st' tx) {ks : List KeyT} (hs : SortedK ks) (hm : ∀ k, k ∈ ks ↔ (∃ x ∈ rs.holds, x.tx = tx ∧ x.key = k) ∨ waitsQ rs.queue tx = some k) : RelQ st' (freeQ rs tx ks) :=
  h.free hf (hs.imp fun {a b} e e' => by rw [e'] at e; exact Nat.lt_irrefl _ e) fun k hk => by
    rw [hm k]
    unfold touches at hk
    simp only [Bool.or_eq_true, decide_eq_true_eq] at hk
    rcases hk with hk | hk
    · exact .inl (h.holder.1 hk)
    · right
      obtain ⟨w, h1, h2⟩ := h.inv.waits_iff.1 hk
      rw [h.waits tx, h1, ← h2]
      rfl

/-! ### The two tables, apart -/

/-- Two tables behind w0 that have no block in common, and what else must stay. -/
structure PrIn (w0 : World) (K : Nat → Obj → Prop) (tb m : Nat) (st : PS) (xb n : Nat) (rs : RS) (w : World) (F G : Nat → Prop) : Prop where
  lock : LockAt w F tb m st
  ref : RefAt w G xb n rs
  sep : ∀ b, F b → ¬ G b
  lowF : ∀ b, F b → w0.heap.size ≤ b
  lowG : ∀ b, G b → w0.heap.size ≤ b
  below : Below w0.heap.size w0 w
  keep : ∀ b o, K b o → w.heap[b]? = some o ∧ ¬ F b ∧ ¬ G b
def Pr (w0 : World) (K : Nat → Obj → Prop) (tb m : Nat) (st : PS) (xb n : Nat) (rs : RS) (w : World) : Prop := ∃ F G, PrIn w0 K tb m st xb n rs w F G
section
variable {w0 w w' : World} {K : Nat → Obj → Prop} {tb m xb n : Nat} {st : PS} {rs : RS}
theorem some_lt {w : World} {b : Nat} {o : Obj} (h : w.heap[b]? = some o) : b < w.heap.size := (Array.getElem?_eq_some_iff.1 h).1
theorem Pr.still (h : Pr w0 K tb m st xb n rs w) (hb : Below w.heap.size w w') : Pr w0 K tb m st xb n rs w' := by
  obtain ⟨F, G, h⟩ := h
  exact ⟨F, G, h.lock.below hb, h.ref.below hb, h.sep, h.lowF, h.lowG, h.below.trans (hb.mono h.below.size), fun b o hk => ⟨(hb.block b (some_lt (h.keep b o hk).1)).trans (h.keep b o hk).1, (h.keep b o hk).2⟩⟩
theorem Pr.mono (h : Pr w0 K tb m st xb n rs w) {m' n' : Nat} (hm : m ≤ m') (hn : n ≤ n') : Pr w0 K tb m' st xb n' rs w := by
  obtain ⟨F, G, h⟩ := h
  obtain ⟨hv, qv, hr⟩ := h.ref
  exact ⟨F, G, h.lock.mono hm, ⟨hv, qv, { hr with len := Nat.le_trans hr.len hn }⟩, h.sep, h.lowF, h.lowG, h.below, h.keep⟩
theorem Pr.low (h : Pr w0 K tb m st xb n rs w) : Below w0.heap.size w0 w := by obtain ⟨F, G, h⟩ := h; exact h.below
theorem Pr.inv (h : Pr w0 K tb m st xb n rs w) : Inv st := by obtain ⟨F, G, h⟩ := h; exact h.lock.1
theorem Pr.kept (h : Pr w0 K tb m st xb n rs w) {b : Nat} {o : Obj} (hk : K b o) : w.heap[b]? = some o := by obtain ⟨F, G, h⟩ := h; exact (h.keep b o hk).1
theorem Pr.less (h : Pr w0 K tb m st xb n rs w) {K' : Nat → Obj → Prop} (hk : ∀ b o, K' b o → K b o) : Pr w0 K' tb m st xb n rs w := by
  obtain ⟨F, G, h⟩ := h
  exact ⟨F, G, h.lock, h.ref, h.sep, h.lowF, h.lowG, h.below, fun b o hb => h.keep b o (hk b o hb)⟩
theorem Pr.box (h : Pr w0 K tb m st xb n rs w) (o : Obj) : Pr w0 (fun b p => K b p ∨ (b = w.heap.size ∧ p = o)) tb m st xb n rs (w.alloc o) := by
  have hb : Below w.heap.size w (w.alloc o) := (Below.refl _ w).alloc (Nat.le_refl _) o
  obtain ⟨F, G, h⟩ := h
  refine ⟨F, G, h.lock.below hb, h.ref.below hb, h.sep, h.lowF, h.lowG, h.below.trans (hb.mono h.below.size), fun b p hk => ?_⟩
  rcases hk with hk | ⟨rfl, rfl⟩
  · exact ⟨(hb.block b (some_lt (h.keep b p hk).1)).trans (h.keep b p hk).1, (h.keep b p hk).2⟩
  · exact ⟨heap_alloc_new w _, fun e => Nat.lt_irrefl _ (h.lock.lt _ e), fun e => Nat.lt_irrefl _ (h.ref.lt _ e)⟩
theorem PrIn.lockStep {F G : Nat → Prop} (h : PrIn w0 K tb m st xb n rs w F G) {m' : Nat} {st' : PS} (h1 : LockAt w' (grow F w w') tb m' st') (h2 : Moves F w w') : Pr w0 K tb m' st' xb n rs w' := by
  refine ⟨grow F w w', G, h1, h.ref.moves h2 fun b hg hf => h.sep b hf hg, ?_, ?_, h.lowG, h.below.trans (h2.below h.below.size h.lowF), fun b o hk => ?_⟩
  · rintro b (hf | hf) hg
    · exact h.sep b hf hg
    · have := h.ref.lt b hg
      omega
  · rintro b (hf | hf)
    · exact h.lowF b hf
    · have := h.below.size
      omega
  · obtain ⟨k1, k2, k3⟩ := h.keep b o hk
    have hl := some_lt k1
    exact ⟨(h2.block b hl k2).trans k1, fun e => e.elim k2 fun e => by omega, k3⟩
theorem PrIn.refStep {F G : Nat → Prop} (h : PrIn w0 K tb m st xb n rs w F G) {n' : Nat} {rs' : RS} (h1 : RefAt w' (grow G w w') xb n' rs') (h2 : Moves G w w') : Pr w0 K tb m st xb n' rs' w' := by
  refine ⟨F, grow G w w', h.lock.moves h2 h.sep, h1, ?_, h.lowF, ?_, h.below.trans (h2.below h.below.size h.lowG), fun b o hk => ?_⟩
  · rintro b hf (hg | hg)
    · exact h.sep b hf hg
    · have := h.lock.lt b hf
      omega
  · rintro b (hf | hf)
    · exact h.lowG b hf
    · have := h.below.size
      omega
  · obtain ⟨k1, k2, k3⟩ := h.keep b o hk
    have hl := some_lt k1
    exact ⟨(h2.block b hl k3).trans k1, k2, fun e => e.elim k3 fun e => by omega⟩

/-! ### what turns a table -/
theorem Pr.ask (h : Pr w0 K tb m st xb n rs w) (hm : m ≤ 1000) {tx now r : Int} {k : KeyT} {ex : Bool} {st' : PS} (hs : askS st tx k ex now = (st', r)) :
    Calls Try.prog 13 #[.pointer (some ⟨tb, 0, none⟩), .int .i64 tx, KV k, .bool ex, .int .i64 now] w fun e w' => e = .returned (.int .i64 r) ∧ Pr w0 K tb (m + 2) st' xb n rs w' := by
  obtain ⟨F, G, h⟩ := h
  refine (ask_any F tb m st st' tx now r k ex w h.lock hm hs).mono ?_
  rintro e w' ⟨rfl, h1, h2⟩
  exact ⟨rfl, h.lockStep h1 h2⟩
theorem Pr.rask (h : Pr w0 K tb m st xb n rs w) (hn : n ≤ 900) {tx now r : Int} {k : KeyT} {ex : Bool} {rs' : RS} (hs : askQ rs tx k ex now = (rs', r)) :
    Calls Try.prog 14 #[.pointer (some ⟨xb, 0, none⟩), .int .i64 tx, KV k, .bool ex, .int .i64 now] w fun e w' => e = .returned (.int .i64 r) ∧ Pr w0 K tb m st xb (n + 1) rs' w' := by
  obtain ⟨F, G, h⟩ := h
  have h0 := refAsk_any G xb n rs tx now k ex w h.ref hn
  rw [hs] at h0
  refine h0.mono ?_
  rintro e w' ⟨rfl, h1, h2⟩
  exact ⟨rfl, h.refStep h1 h2⟩
theorem Pr.free (h : Pr w0 K tb m st xb n rs w) (hm : m ≤ 1000) {tx : Int} (ht : okI tx) :
    Calls Try.prog 15 #[.pointer (some ⟨tb, 0, none⟩), .int .i64 tx] w fun e w' => e = .returned (.tuple #[]) ∧ ∃ st', FreeSays st st' tx ∧ Pr w0 K tb m st' xb n rs w' := by
  obtain ⟨F, G, h⟩ := h
  refine (free_any F tb m st tx w h.lock hm ht).mono ?_
  rintro e w' ⟨rfl, st', hf, h1, h2⟩
  exact ⟨rfl, st', hf, h.lockStep h1 h2⟩
theorem Pr.rfree {st' : PS} {tx : Int} (h : Pr w0 K tb m st' xb n rs w) (hn : n ≤ 900) (hr : RelQ st rs) (hf : FreeSays st st' tx) :
    Calls Try.prog 16 #[.pointer (some ⟨xb, 0, none⟩), .int .i64 tx] w fun e w' => e = .returned (.tuple #[]) ∧ ∃ rs', RelQ st' rs' ∧ Pr w0 K tb m st' xb n rs' w' := by
  obtain ⟨F, G, h⟩ := h
  refine (refFree_any G xb n rs tx w h.ref hn).mono ?_
  rintro e w' ⟨rfl, ks, h0, hm, h1, h2⟩
  exact ⟨rfl, _, hr.freed hf h0 hm, h.refStep h1 h2⟩
theorem Pr.quit (h : Pr w0 K tb m st xb n rs w) (hm : m ≤ 1000) {tx : Int} {r : Bool} {st' : PS} (ht : okI tx) (hs : quitS st tx = (st', r)) :
    Calls Try.prog 17 #[.pointer (some ⟨tb, 0, none⟩), .int .i64 tx] w fun e w' => e = .returned (.bool r) ∧ Pr w0 K tb m st' xb n rs w' := by
  obtain ⟨F, G, h⟩ := h
  have h0 := quit_any F tb m st tx w h.lock hm ht
  rw [hs] at h0
  refine h0.mono ?_
  rintro e w' ⟨rfl, h1, h2⟩
  exact ⟨rfl, h.lockStep h1 h2⟩
theorem Pr.rquit (h : Pr w0 K tb m st xb n rs w) (hn : n ≤ 1000) {tx : Int} {r : Bool} {rs' : RS} (hs : quitQ rs tx = (rs', r)) :
    Calls Try.prog 18 #[.pointer (some ⟨xb, 0, none⟩), .int .i64 tx] w fun e w' => e = .returned (.bool r) ∧ Pr w0 K tb m st xb n rs' w' := by
  obtain ⟨F, G, h⟩ := h
  have h0 := refQuit_any G xb n rs tx w h.ref hn
  rw [hs] at h0
  refine h0.mono ?_
  rintro e w' ⟨rfl, h1, h2⟩
  exact ⟨rfl, h.refStep h1 h2⟩

/-! ### what asks only -/
theorem Pr.waits (h : Pr w0 K tb m st xb n rs w) {tx : Int} (ht : okI tx) :
    Calls Try.prog 19 #[.pointer (some ⟨tb, 0, none⟩), .int .i64 tx] w fun e w' => e = .returned (.tuple #[KV (keyW st tx), .bool (st.wish tx).isSome]) ∧ Below w.heap.size w w' := by
  obtain ⟨F, G, h⟩ := h
  exact waits_any F tb m st tx w h.lock ht
theorem Pr.rwaits (h : Pr w0 K tb m st xb n rs w) (hn : n ≤ 1000) (hr : RelQ st rs) (tx : Int) :
    Calls Try.prog 20 #[.pointer (some ⟨xb, 0, none⟩), .int .i64 tx] w fun e w' => e = .returned (.tuple #[KV (keyW st tx), .bool (st.wish tx).isSome]) ∧ Below w.heap.size w w' := by
  obtain ⟨F, G, h⟩ := h
  have h0 := refWaits_any G xb n rs tx _ w h.ref hn rfl
  rw [(hr.waitsK tx).1, (hr.waitsK tx).2] at h0
  exact h0
theorem Pr.holds (h : Pr w0 K tb m st xb n rs w) {tx r : Int} {k : KeyT} (hr : howH (st.row k).hs tx = r) :
    Calls Try.prog 21 #[.pointer (some ⟨tb, 0, none⟩), .int .i64 tx, KV k] w fun e w' => e = .returned (.int .i64 r) ∧ Below w.heap.size w w' := by
  obtain ⟨F, G, h⟩ := h
  exact holds_any F tb m st tx r k w h.lock hr
theorem Pr.rhow (h : Pr w0 K tb m st xb n rs w) (hn : n ≤ 1000) (hq : RelQ st rs) {tx r : Int} {k : KeyT} (hr : howH (st.row k).hs tx = r) :
    Calls Try.prog 22 #[.pointer (some ⟨xb, 0, none⟩), .int .i64 tx, KV k] w fun e w' => e = .returned (.int .i64 r) ∧ Below w.heap.size w w' := by
  obtain ⟨F, G, h⟩ := h
  exact refHow_any G xb n rs tx r k w h.ref hn ((hq.how tx k).trans hr)
/-- A slice of keys as the table has them. -/
def KRow (st : PS) (q : PRow → Bool) (w : World) (v : Value) : Prop := ∃ B l, ERow eltK B w v l ∧ KeysL st q l
theorem KRow.below {q : PRow → Bool} {v : Value} (h : KRow st q w v) (hb : Below w.heap.size w w') : KRow st q w' v := by
  obtain ⟨B, l, h1, h2⟩ := h
  exact ⟨B, l, h1.below hb, h2⟩
/-- Numbers as the table has them. -/
def IRow (P : List Int → Prop) (w : World) (v : Value) : Prop := ∃ B l, ERow eltI B w v l ∧ P l
theorem IRow.below {P : List Int → Prop} {v : Value} (h : IRow P w v) (hb : Below w.heap.size w w') : IRow P w' v := by
  obtain ⟨B, l, h1, h2⟩ := h
  exact ⟨B, l, h1.below hb, h2⟩
theorem flat_encI (l : List Int) : l.flatMap encI = l.map (Value.int .i64) := by
  induction l with
  | nil => rfl
  | cons x l ih => rw [List.flatMap_cons, ih]; rfl
theorem IntsAt.erow {B : Nat} {v : Value} {l : List Int} : IntsAt w B v l ↔ ERow eltI B w v l := by
  unfold IntsAt ERow
  rw [show l.flatMap eltI.enc = l.map (Value.int .i64) from flat_encI l]
  exact Iff.rfl
theorem Pr.len (h : Pr w0 K tb m st xb n rs w) : rs.holds.length + rs.queue.length ≤ n := by
  obtain ⟨F, G, h⟩ := h
  obtain ⟨hv, qv, hr⟩ := h.ref
  exact hr.len
theorem KeysL.few {q : PRow → Bool} {l : List KeyT} (h : KeysL st q l) (hr : RelQ st rs) : l.length ≤ rs.holds.length := by
  have h1 := nodup_len (l := l) (l' := rs.holds.map RHold.key) (h.up.imp fun {a b} e e' => by rw [e'] at e; exact Nat.lt_irrefl _ e) fun k hk => by
    obtain ⟨x, hx, e⟩ := hr.somebody.1 ((hr.inv.isSome k).1 ((h.mem k).1 hk).1)
    exact List.mem_map.2 ⟨x, hx, e⟩
  rwa [List.length_map] at h1
theorem sorted_nd {l : List Int} (h : SortedN l) : l.Nodup := h.imp fun {a b} e e' => by rw [e'] at e; exact Int.lt_irrefl _ e
theorem few_tx {l : List Int} {qs : List RHold} (h : SortedN l) (hm : ∀ t ∈ l, ∃ x ∈ qs, x.tx = t) : l.length ≤ qs.length := by
  have h1 := nodup_len (l := l) (l' := qs.map RHold.tx) (sorted_nd h) fun t ht => by
    obtain ⟨x, hx, e⟩ := hm t ht
    exact List.mem_map.2 ⟨x, hx, e⟩
  rwa [List.length_map] at h1
theorem Pr.keys (h : Pr w0 K tb m st xb n rs w) (hm : m ≤ 1000) (tx : Int) :
    Calls Try.prog 24 #[.pointer (some ⟨tb, 0, none⟩), .int .i64 tx] w fun e w' => ∃ v, e = .returned v ∧ KRow st (fun r => decide (howH r.hs tx ≠ 0)) w' v ∧ Below w.heap.size w w' := by
  obtain ⟨F, G, h⟩ := h
  refine (keys_any F tb m st tx w h.lock (by omega)).mono ?_
  rintro e w' ⟨v, l, rfl, h1, h2, h3⟩
  exact ⟨v, rfl, ⟨_, l, h1, h2⟩, h3⟩
theorem Pr.rkeys (h : Pr w0 K tb m st xb n rs w) (hn : n ≤ 1000) (hq : RelQ st rs) (tx : Int) :
    Calls Try.prog 25 #[.pointer (some ⟨xb, 0, none⟩), .int .i64 tx] w fun e w' => ∃ v, e = .returned v ∧ KRow st (fun r => decide (howH r.hs tx ≠ 0)) w' v ∧ Below w.heap.size w w' := by
  obtain ⟨F, G, h⟩ := h
  refine (refKeys_any G xb n rs tx w h.ref hn).mono ?_
  rintro e w' ⟨v, l, rfl, h1, h2, h3, h4⟩
  exact ⟨v, rfl, ⟨_, l, h1, hq.keys h2 h3⟩, h4⟩
theorem Pr.held (h : Pr w0 K tb m st xb n rs w) (hm : m ≤ 1000) :
    Calls Try.prog 26 #[.pointer (some ⟨tb, 0, none⟩)] w fun e w' => ∃ v, e = .returned v ∧ KRow st (fun _ => true) w' v ∧ Below w.heap.size w w' := by
  obtain ⟨F, G, h⟩ := h
  refine (held_any F tb m st w h.lock (by omega)).mono ?_
  rintro e w' ⟨v, l, rfl, h1, h2, h3⟩
  exact ⟨v, rfl, ⟨_, l, h1, h2⟩, h3⟩
theorem Pr.rheld (h : Pr w0 K tb m st xb n rs w) (hn : n ≤ 1000) (hq : RelQ st rs) :
    Calls Try.prog 27 #[.pointer (some ⟨xb, 0, none⟩)] w fun e w' => ∃ v, e = .returned v ∧ KRow st (fun _ => true) w' v ∧ Below w.heap.size w w' := by
  obtain ⟨F, G, h⟩ := h
  refine (refHeld_any G xb n rs w h.ref hn).mono ?_
  rintro e w' ⟨v, l, rfl, h1, h2, h3, h4⟩
  exact ⟨v, rfl, ⟨_, l, h1, hq.held h2 h3⟩, h4⟩
theorem Pr.txs (h : Pr w0 K tb m st xb n rs w) (hm : m ≤ 1000) :
    Calls Try.prog 29 #[.pointer (some ⟨tb, 0, none⟩)] w fun e w' => ∃ v, e = .returned v ∧ IRow (TxsL st) w' v ∧ Below w.heap.size w w' := by
  obtain ⟨F, G, h⟩ := h
  refine (txs_any F tb m st w h.lock hm).mono ?_
  rintro e w' ⟨v, l, rfl, h1, h2, h3⟩
  exact ⟨v, rfl, ⟨_, l, IntsAt.erow.1 h1, h2⟩, h3⟩
theorem Pr.rtxs (h : Pr w0 K tb m st xb n rs w) (hn : n ≤ 1000) (hq : RelQ st rs) :
    Calls Try.prog 30 #[.pointer (some ⟨xb, 0, none⟩)] w fun e w' => ∃ v, e = .returned v ∧ IRow (TxsL st) w' v ∧ Below w.heap.size w w' := by
  obtain ⟨F, G, h⟩ := h
  refine (refTxs_any G xb n rs w h.ref hn hq.all_tx).mono ?_
  rintro e w' ⟨v, l, rfl, h1, h2, h3, h4⟩
  exact ⟨v, rfl, ⟨_, l, h1, hq.txs h2 h3⟩, h4⟩
theorem Pr.late (h : Pr w0 K tb m st xb n rs w) (hm : m ≤ 1000) (now : Int) :
    Calls Try.prog 31 #[.pointer (some ⟨tb, 0, none⟩), .int .i64 now] w fun e w' => ∃ v, e = .returned v ∧ IRow (LateL st now) w' v ∧ Below w.heap.size w w' := by
  obtain ⟨F, G, h⟩ := h
  refine (late_any F tb m st now w h.lock (by omega)).mono ?_
  rintro e w' ⟨v, l, rfl, h1, h2, h3⟩
  exact ⟨v, rfl, ⟨_, l, IntsAt.erow.1 h1, h2⟩, h3⟩
theorem Pr.rlate (h : Pr w0 K tb m st xb n rs w) (hn : n ≤ 1000) (hq : RelQ st rs) (now : Int) :
    Calls Try.prog 32 #[.pointer (some ⟨xb, 0, none⟩), .int .i64 now] w fun e w' => ∃ v, e = .returned v ∧ IRow (LateL st now) w' v ∧ Below w.heap.size w w' := by
  obtain ⟨F, G, h⟩ := h
  have hw : 1 ≤ rs.wait ∧ rs.wait ≤ 1000 := by
    obtain ⟨_, rb, wb, g, ht⟩ := h.lock
    rw [hq.wait]
    exact ⟨ht.w1, ht.w2⟩
  refine (refLate_any G xb n rs now w h.ref hn hq.queue_tx hw).mono ?_
  rintro e w' ⟨v, l, rfl, h1, h2, h3, h4⟩
  exact ⟨v, rfl, ⟨_, l, h1, hq.late h2 h3⟩, h4⟩

/-! ### two answers compared -/
theorem sameK {q : PRow → Bool} {v v' : Value} (hq : RelQ st rs) (hl : rs.holds.length ≤ 1000) (h : KRow st q w v) (h' : KRow st q w v') :
    Calls Try.prog 23 #[v, v'] w fun e w' => e = .returned (.bool true) ∧ Below w.heap.size w w' := by
  obtain ⟨B, l, h1, h2⟩ := h
  obtain ⟨B', l', h1', h2'⟩ := h'
  obtain rfl : l = l' := sortedK_one h2.up h2'.up fun k => (h2.mem k).trans (h2'.mem k).symm
  have hf := h2.few hq
  obtain ⟨A, c, rfl⟩ := h1.slice
  obtain ⟨A', c', rfl⟩ := h1'.slice
  have h0 := refSameKeys_any A A' l.length l.length c c' l l w rfl rfl (by omega) (by omega) (fun _ hb => ERow.in_all (h1.below hb)) fun _ hb => ERow.in_all (h1'.below hb)
  rw [decide_eq_true (rfl : l = l)] at h0
  exact h0
theorem sameI {l l' : List Int} {B B' : Nat} {v v' : Value} (he : l = l') (hl : l.length ≤ 1000) (h : ERow eltI B w v l) (h' : ERow eltI B' w v' l') :
    Calls Try.prog 28 #[v, v'] w fun e w' => e = .returned (.bool true) ∧ Below w.heap.size w w' := by
  subst he
  obtain ⟨A, c, rfl, i1⟩ := (IntsAt.erow.2 h).ints
  obtain ⟨A', c', rfl, i2⟩ := (IntsAt.erow.2 h').ints
  have h0 := sameInts_any A A' l l c c' w.heap.size w i1 i2 (by omega) (by omega)
  rw [beq_self_eq_true] at h0
  exact h0.mono fun e w' ⟨h1, h2⟩ => ⟨h1, h2.below _ (Nat.le_refl _)⟩
theorem sameT {v v' : Value} (hq : RelQ st rs) (hl : rs.holds.length + rs.queue.length ≤ 1000) (h : IRow (TxsL st) w v) (h' : IRow (TxsL st) w v') :
    Calls Try.prog 28 #[v, v'] w fun e w' => e = .returned (.bool true) ∧ Below w.heap.size w w' := by
  obtain ⟨B, l, h1, h2⟩ := h
  obtain ⟨B', l', h1', h2'⟩ := h'
  refine sameI (sortedN_one h2.up h2'.up fun t => (h2.mem t).trans (h2'.mem t).symm) ?_ h1 h1'
  have := few_tx (qs := rs.holds ++ rs.queue) h2.up fun t ht => by
    obtain ⟨k, h3 | h3⟩ := (h2.mem t).1 ht
    · obtain ⟨p, hp, rfl⟩ := List.mem_map.1 h3
      rw [← hq.hs k] at hp
      obtain ⟨x, hx, -, e2⟩ := mem_hsOf.1 hp
      exact ⟨x, List.mem_append.2 (.inl hx), congrArg Prod.fst e2⟩
    · rw [← hq.ws k] at h3
      obtain ⟨x, hx, -, e2⟩ := mem_wsOf.1 h3
      exact ⟨x, List.mem_append.2 (.inr hx), e2⟩
  rw [List.length_append] at this
  omega
theorem sameL {now : Int} {v v' : Value} (hq : RelQ st rs) (hl : rs.holds.length + rs.queue.length ≤ 1000) (h : IRow (LateL st now) w v) (h' : IRow (LateL st now) w v') :
    Calls Try.prog 28 #[v, v'] w fun e w' => e = .returned (.bool true) ∧ Below w.heap.size w w' := by
  obtain ⟨B, l, h1, h2⟩ := h
  obtain ⟨B', l', h1', h2'⟩ := h'
  refine sameI (sortedN_one h2.up h2'.up fun t => (h2.mem t).trans (h2'.mem t).symm) ?_ h1 h1'
  have := few_tx (qs := rs.queue) h2.up fun t ht => by
    have h3 := (h2.mem t).1 ht
    unfold lateB at h3
    cases hp : st.wish t with
    | none => rw [hp] at h3; cases h3
    | some p =>
      obtain ⟨x, hx, e, -⟩ := hq.in_queue hp
      exact ⟨x, hx, e⟩
  omega
end
end Go.Proofs.Ytnfodidfhnofkaa
