/- A table of locks in memory. -/
import Derived.Test.YtnfodidfhnofkaaBl
import Derived.Laws.StructEq
namespace Go.Proofs.Ytnfodidfhnofkaa
open Go.RowKit Go.Deep Go.Maps

/-! ### keys compared -/
theorem sz_u8 (w : World) : (sizeOf 5).run Try.prog w = .ok 1 w := by
  have e : Try.t5.size = 1 := rfl
  simp [sizeOf, e]
theorem run_eqKey (d : Nat) (a0 a1 a2 a3 b0 b1 b2 b3 : Int) (w : World) :
    (Op.equalIn (d + 2) 24 (.agg #[.int .u8 a0, .int .u8 a1, .int .u8 a2, .int .u8 a3]) (.agg #[.int .u8 b0, .int .u8 b1, .int .u8 b2, .int .u8 b3])).run Try.prog w = .ok (a0 == b0 && (a1 == b1 && (a2 == b2 && a3 == b3))) w := by
  have he := Try.underlying5
  have hp : ∀ (x0 x1 x2 x3 : Value) (i : Nat) (hi : i < 4) (w : World), (part 5 #[x0, x1, x2, x3] i).run Try.prog w = .ok (#[x0, x1, x2, x3].getD i undef) w := by
    intro x0 x1 x2 x3 i hi w
    match i, hi with
    | 0, _ => simp [part, isAgg, run_underlying he]
    | 1, _ => simp [part, isAgg, run_underlying he]
    | 2, _ => simp [part, isAgg, run_underlying he]
    | 3, _ => simp [part, isAgg, run_underlying he]
  rw [Op.equalIn]
  simp only [Sem.run_bind, run_underlying Try.underlying24, Result.andThen_ok, sz_u8, Std.Legacy.Range.forIn_eq_forIn_range', Std.Legacy.Range.size, Nat.sub_zero, Nat.add_sub_cancel, Nat.div_one]
  rw [show List.range' 0 4 1 = [0, 1, 2, 3] from rfl]
  have q : ∀ (a b : Int) (w : World), (Op.equalIn (d + 1) 5 (.int .u8 a) (.int .u8 b)).run Try.prog w = .ok (a == b) w := fun a b w => run_equalIn_int w d 5 .u8 .u8 a b he
  cases h0 : (a0 == b0) <;> cases h1 : (a1 == b1) <;> cases h2 : (a2 == b2) <;> cases h3 : (a3 == b3) <;>
    simp [List.forIn_cons, Sem.run_bind, hp _ _ _ _ 0 (by omega), hp _ _ _ _ 1 (by omega), hp _ _ _ _ 2 (by omega), hp _ _ _ _ 3 (by omega), Result.andThen_ok, q, h0, h1, h2, h3]
theorem eq_cells (x y : KeyT) : (((x.a.val : Int) == (y.a.val : Int)) && (((x.b.val : Int) == (y.b.val : Int)) && (((x.c.val : Int) == (y.c.val : Int)) && ((x.d.val : Int) == (y.d.val : Int))))) = decide (x = y) := by
  by_cases h : x = y
  · subst h; simp
  · rw [decide_eq_false h]
    cases hb : (((x.a.val : Int) == (y.a.val : Int)) && (((x.b.val : Int) == (y.b.val : Int)) && (((x.c.val : Int) == (y.c.val : Int)) && ((x.d.val : Int) == (y.d.val : Int))))) with
    | false => rfl
    | true =>
      simp only [Bool.and_eq_true, beq_iff_eq] at hb
      exact absurd (kv_inj (by simp [kv, hb.1, hb.2.1, hb.2.2.1, hb.2.2.2])) h
theorem run_eqlKey (x y : KeyT) (w : World) : (binOp .eql 24 (KV x) (KV y)).run Try.prog w = .ok (.bool (decide (x = y))) w := by
  have h := run_eqKey 9998 x.a.val x.b.val x.c.val x.d.val y.a.val y.b.val y.c.val y.d.val w
  rw [eq_cells] at h
  show (binOp .eql 24 (.agg (kv x).toArray) (.agg (kv y).toArray)).run Try.prog w = _
  rw [run_eql_struct]
  rw [show (Op.equalIn 10000 24 (.agg (kv x).toArray) (.agg (kv y).toArray)).run Try.prog w = .ok (decide (x = y)) w from h]
  rfl
theorem run_neqKey (x y : KeyT) (w : World) : (binOp .neq 24 (KV x) (KV y)).run Try.prog w = .ok (.bool (!decide (x = y))) w := by
  have h := run_eqKey 9998 x.a.val x.b.val x.c.val x.d.val y.a.val y.b.val y.c.val y.d.val w
  rw [eq_cells] at h
  show (binOp .neq 24 (.agg (kv x).toArray) (.agg (kv y).toArray)).run Try.prog w = _
  rw [run_neq_struct]
  rw [show (Op.equalIn 10000 24 (.agg (kv x).toArray) (.agg (kv y).toArray)).run Try.prog w = .ok (decide (x = y)) w from h]
  rfl

/-! ### a table -/
def wishV (p : PWish) : Value := .agg (kv p.key ++ [Value.int .i64 p.want, Value.int .i64 p.since]).toArray
def rowZ : Value := .agg #[.slice none 0 0, .slice none 0 0]
def RowAt (w : World) (v : Value) (r : PRow) : Prop := ∃ hv wv, v = .agg #[hv, wv] ∧ HoldAt w hv r.hs ∧ WaitAt w wv r.ws ∧ ∀ b, hv.ownBlock = some b → wv.ownBlock ≠ some b
def BlkOf (v : Value) (b : Nat) : Prop := ∃ hv wv, v = .agg #[hv, wv] ∧ (hv.ownBlock = some b ∨ wv.ownBlock = some b)
theorem RowAt.lt {w : World} {v : Value} {r : PRow} (h : RowAt w v r) {b : Nat} (hb : BlkOf v b) : b < w.heap.size := by
  obtain ⟨hv, wv, rfl, h1, h2, _⟩ := h
  obtain ⟨hv', wv', e, hb⟩ := hb
  simp only [Value.agg.injEq, Array.mk.injEq, List.cons.injEq, and_true] at e
  obtain ⟨rfl, rfl⟩ := e
  exact hb.elim (h1.lt b) (h2.lt b)
theorem RowAt.kept {w w' : World} {v : Value} {r : PRow} (h : RowAt w v r) (hb : ∀ b, BlkOf v b → w'.heap[b]? = w.heap[b]?) : RowAt w' v r := by
  obtain ⟨hv, wv, rfl, h1, h2, h3⟩ := h
  exact ⟨hv, wv, rfl, h1.kept fun k hk => hb k ⟨hv, wv, rfl, .inl hk⟩, h2.kept fun k hk => hb k ⟨hv, wv, rfl, .inr hk⟩, h3⟩
theorem RowAt.zero (w : World) : RowAt w rowZ ⟨[], []⟩ := ⟨_, _, rfl, HoldAt.nil w, WaitAt.nil w, fun b hb => by cases hb⟩
theorem blk_zero {b : Nat} (h : BlkOf rowZ b) : False := by
  obtain ⟨hv, wv, e, h⟩ := h
  simp only [rowZ, Value.agg.injEq, Array.mk.injEq, List.cons.injEq, and_true] at e
  obtain ⟨rfl, rfl⟩ := e
  exact h.elim (fun h => by cases h) (fun h => by cases h)
def rowF (st : PS) (g : KeyT → Value) (k : KeyT) : Option Value := (st.rows k).map fun _ => g k
def wishF (st : PS) (t : Int) : Option Value := (st.wish t).map wishV
/-- A table at tb, its rows (those that P names) and its wishes; all its blocks are F. -/
structure TabIn (w : World) (F : Nat → Prop) (tb rb wb : Nat) (g : KeyT → Value) (m : Nat) (P : KeyT → Prop) (st : PS) : Prop where
  blk : w.heap[tb]? = some (.cells #[.int .i64 st.wait, .map (some rb), .map (some wb)] 58 (0, 0))
  w1 : 1 ≤ st.wait
  w2 : st.wait ≤ 1000
  map1 : MapAt Try.prog 24 (fun _ => True) kLit w rb m (rowF st g)
  map2 : MapAt Try.prog 3 okI iLit w wb m (wishF st)
  rows : ∀ k r, P k → st.rows k = some r → RowAt w (g k) r ∧ r.hs.length + r.ws.length ≤ m ∧ ∀ b, BlkOf (g k) b → F b ∧ b ≠ tb ∧ b ≠ rb ∧ b ≠ wb
  sep : ∀ k k' r r', P k → P k' → k ≠ k' → st.rows k = some r → st.rows k' = some r' → ∀ b, BlkOf (g k) b → ¬ BlkOf (g k') b
  ne1 : tb ≠ rb
  ne2 : tb ≠ wb
  ne3 : rb ≠ wb
  f1 : F tb
  f2 : F rb
  f3 : F wb
  lt : ∀ b, F b → b < w.heap.size
section
variable {w w' : World} {F G : Nat → Prop} {tb rb wb : Nat} {g : KeyT → Value} {m : Nat} {P : KeyT → Prop} {st : PS}
theorem TabIn.moves (h : TabIn w F tb rb wb g m P st) (hm : Moves G w w') (hd : ∀ b, F b → ¬ G b) : TabIn w' F tb rb wb g m P st := by
  have hk : ∀ b, F b → w'.heap[b]? = w.heap[b]? := fun b hb => hm.block b (h.lt b hb) (hd b hb)
  exact { blk := (hk tb h.f1).trans h.blk, w1 := h.w1, w2 := h.w2, map1 := h.map1.block (hk rb h.f2), map2 := h.map2.block (hk wb h.f3)
          rows := fun k r hP hr => by
            obtain ⟨a, b, c⟩ := h.rows k r hP hr
            exact ⟨a.kept fun x hx => hk x (c x hx).1, b, c⟩
          sep := h.sep, ne1 := h.ne1, ne2 := h.ne2, ne3 := h.ne3, f1 := h.f1, f2 := h.f2, f3 := h.f3, lt := fun b hb => Nat.lt_of_lt_of_le (h.lt b hb) hm.size }
theorem TabIn.below (h : TabIn w F tb rb wb g m P st) (hb : Below w.heap.size w w') : TabIn w' F tb rb wb g m P st := h.moves (moves_of_below (F := fun _ => False) hb) fun _ _ e => e
theorem TabIn.more (h : TabIn w F tb rb wb g m P st) (hF : ∀ b, F b → G b) (hl : ∀ b, G b → b < w.heap.size) : TabIn w G tb rb wb g m P st :=
  { h with rows := fun k r hP hr => by obtain ⟨a, b, c⟩ := h.rows k r hP hr; exact ⟨a, b, fun x hx => ⟨hF x (c x hx).1, (c x hx).2⟩⟩, f1 := hF tb h.f1, f2 := hF rb h.f2, f3 := hF wb h.f3, lt := hl }
theorem TabIn.mono (h : TabIn w F tb rb wb g m P st) {m' : Nat} (hm : m ≤ m') : TabIn w F tb rb wb g m' P st :=
  { h with map1 := h.map1.mono hm, map2 := h.map2.mono hm, rows := fun k r hP hr => by obtain ⟨a, b, c⟩ := h.rows k r hP hr; exact ⟨a, Nat.le_trans b hm, c⟩ }
theorem TabIn.c0 (h : TabIn w F tb rb wb g m P st) : w.cell? ⟨tb, 0, none⟩ = some (.int .i64 st.wait) := by simp [World.cell?, h.blk]
theorem TabIn.c1 (h : TabIn w F tb rb wb g m P st) : w.cell? ⟨tb, 1, none⟩ = some (.map (some rb)) := by simp [World.cell?, h.blk]
theorem TabIn.c2 (h : TabIn w F tb rb wb g m P st) : w.cell? ⟨tb, 2, none⟩ = some (.map (some wb)) := by simp [World.cell?, h.blk]
/-- What a look-up gives. -/
def rowG (st : PS) (g : KeyT → Value) (k : KeyT) : Value := (rowF st g k).getD rowZ
theorem TabIn.row (h : TabIn w F tb rb wb g m P st) {k : KeyT} (hP : P k) : RowAt w (rowG st g k) (st.row k) ∧ (st.row k).hs.length + (st.row k).ws.length ≤ m ∧ ∀ b, BlkOf (rowG st g k) b → F b ∧ b ≠ tb ∧ b ≠ rb ∧ b ≠ wb := by
  unfold rowG rowF PS.row
  cases hr : st.rows k with
  | none => exact ⟨RowAt.zero w, by simp, fun b hb => (blk_zero hb).elim⟩
  | some r => exact h.rows k r hP hr
/-- All but one row. -/
theorem TabIn.but (h : TabIn w F tb rb wb g m P st) {k : KeyT} (hP : P k) : TabIn w (fun b => F b ∧ ¬ BlkOf (rowG st g k) b) tb rb wb g m (fun k' => P k' ∧ k' ≠ k) st := by
  obtain ⟨_, _, hb⟩ := h.row hP
  refine { h with rows := fun k' r hk hr => ?_, sep := fun k1 k2 r1 r2 h1 h2 => h.sep k1 k2 r1 r2 h1.1 h2.1, f1 := ⟨h.f1, fun x => (hb _ x).2.1 rfl⟩, f2 := ⟨h.f2, fun x => (hb _ x).2.2.1 rfl⟩, f3 := ⟨h.f3, fun x => (hb _ x).2.2.2 rfl⟩, lt := fun b hb => h.lt b hb.1 }
  obtain ⟨a1, a2, a3⟩ := h.rows k' r hk.1 hr
  refine ⟨a1, a2, fun b hx => ⟨⟨(a3 b hx).1, fun hx2 => ?_⟩, (a3 b hx).2⟩⟩
  unfold rowG rowF at hx2
  cases hr2 : st.rows k with
  | none => rw [hr2] at hx2; exact blk_zero hx2
  | some r2 => rw [hr2] at hx2; exact h.sep k' k r r2 hk.1 hP hk.2 hr hr2 b hx hx2
theorem rowF_upd (st : PS) (g : KeyT → Value) (k : KeyT) (v : Value) (r : PRow) : updM (rowF st g) k (some v) = rowF { st with rows := upd st.rows k (some r) } (upd g k v) := by
  funext k'
  unfold updM rowF
  by_cases e : k' = k
  · subst e; simp [upd_same]
  · simp [e, upd_other e]
theorem rowF_del (st : PS) (g : KeyT → Value) (k : KeyT) : updM (rowF st g) k none = rowF { st with rows := upd st.rows k none } g := by
  funext k'
  unfold updM rowF
  by_cases e : k' = k
  · subst e; simp [upd_same]
  · simp [e, upd_other e]
/-- A row is stored. -/
theorem TabIn.put {k : KeyT} (h : TabIn w F tb rb wb g m (fun k' => P k' ∧ k' ≠ k) st) {v : Value} {r : PRow} {m' : Nat} (hr : RowAt w v r) (hm : r.hs.length + r.ws.length ≤ m') (hmm : m ≤ m') (hd : ∀ b, BlkOf v b → ¬ F b) (hg : w.grownBy w' (some rb)) (hmap : MapAt Try.prog 24 (fun _ => True) kLit w' rb m' (updM (rowF st g) k (some v))) :
    TabIn w' (fun b => F b ∨ BlkOf v b) tb rb wb (upd g k v) m' (fun k' => P k' ∨ k' = k) { st with rows := upd st.rows k (some r) } := by
  have hk : ∀ b, b < w.heap.size → b ≠ rb → w'.heap[b]? = w.heap[b]? := fun b hb hne => hg.block b hb (fun e => hne (by injection e))
  have hlt : ∀ b, (F b ∨ BlkOf v b) → b < w.heap.size := fun b hb => hb.elim (h.lt b) hr.lt
  have hvr : ∀ b, BlkOf v b → b ≠ tb ∧ b ≠ rb ∧ b ≠ wb := fun b hb => ⟨fun e => hd b hb (e ▸ h.f1), fun e => hd b hb (e ▸ h.f2), fun e => hd b hb (e ▸ h.f3)⟩
  refine { blk := (hk tb (h.lt _ h.f1) h.ne1).trans h.blk, w1 := h.w1, w2 := h.w2, map1 := by rw [← rowF_upd]; exact hmap, map2 := (h.map2.block (hk wb (h.lt _ h.f3) (Ne.symm h.ne3))).mono hmm, rows := fun k' r' hP hr' => ?_, sep := fun k1 k2 r1 r2 h1 h2 hne e1 e2 b hb1 hb2 => ?_, ne1 := h.ne1, ne2 := h.ne2, ne3 := h.ne3, f1 := .inl h.f1, f2 := .inl h.f2, f3 := .inl h.f3, lt := fun b hb => Nat.lt_of_lt_of_le (hlt b hb) hg.size }
  · by_cases e : k' = k
    · subst e
      simp only [upd_same, Option.some.injEq] at hr' ⊢
      subst hr'
      exact ⟨hr.kept fun b hb => hk b (hr.lt hb) (hvr b hb).2.1, hm, fun b hb => ⟨.inr hb, hvr b hb⟩⟩
    · rw [upd_other e]
      have hr' : st.rows k' = some r' := by simpa [upd_other e] using hr'
      obtain ⟨a1, a2, a3⟩ := h.rows k' r' ⟨hP.resolve_right e, e⟩ hr'
      exact ⟨a1.kept fun b hb => hk b (a1.lt hb) (a3 b hb).2.2.1, Nat.le_trans a2 hmm, fun b hb => ⟨.inl (a3 b hb).1, (a3 b hb).2⟩⟩
  · by_cases x1 : k1 = k
    · subst x1
      have x2 : k2 ≠ k1 := Ne.symm hne
      simp only [upd_same] at hb1
      simp only [upd_other x2] at hb2 e2
      exact hd b hb1 ((h.rows k2 r2 ⟨h2.resolve_right x2, x2⟩ e2).2.2 b hb2).1
    · simp only [upd_other x1] at hb1 e1
      by_cases x2 : k2 = k
      · subst x2
        simp only [upd_same] at hb2
        exact hd b hb2 ((h.rows k1 r1 ⟨h1.resolve_right x1, x1⟩ e1).2.2 b hb1).1
      · simp only [upd_other x2] at hb2 e2
        exact h.sep k1 k2 r1 r2 ⟨h1.resolve_right x1, x1⟩ ⟨h2.resolve_right x2, x2⟩ hne e1 e2 b hb1 hb2
/-- A row is deleted. -/
theorem TabIn.del {k : KeyT} (h : TabIn w F tb rb wb g m (fun k' => P k' ∧ k' ≠ k) st) (hg : w.grownBy w' (some rb)) (hmap : MapAt Try.prog 24 (fun _ => True) kLit w' rb m (updM (rowF st g) k none)) :
    TabIn w' F tb rb wb g m (fun k' => P k' ∨ k' = k) { st with rows := upd st.rows k none } := by
  have hk : ∀ b, b < w.heap.size → b ≠ rb → w'.heap[b]? = w.heap[b]? := fun b hb hne => hg.block b hb (fun e => hne (by injection e))
  have hst : ∀ {k' r'}, upd st.rows k none k' = some r' → k' ≠ k ∧ st.rows k' = some r' := fun {k' r'} hr => by
    have e : k' ≠ k := fun e => by subst e; simp [upd_same] at hr
    exact ⟨e, by simpa [upd_other e] using hr⟩
  refine { blk := (hk tb (h.lt _ h.f1) h.ne1).trans h.blk, w1 := h.w1, w2 := h.w2, map1 := by rw [← rowF_del]; exact hmap, map2 := h.map2.block (hk wb (h.lt _ h.f3) (Ne.symm h.ne3)), rows := fun k' r' hP hr' => ?_, sep := fun k1 k2 r1 r2 h1 h2 hne e1 e2 b hb1 hb2 => ?_, ne1 := h.ne1, ne2 := h.ne2, ne3 := h.ne3, f1 := h.f1, f2 := h.f2, f3 := h.f3, lt := fun b hb => Nat.lt_of_lt_of_le (h.lt b hb) hg.size }
  · obtain ⟨e, hr'⟩ := hst hr'
    obtain ⟨a1, a2, a3⟩ := h.rows k' r' ⟨hP.resolve_right e, e⟩ hr'
    exact ⟨a1.kept fun b hb => hk b (a1.lt hb) (a3 b hb).2.2.1, a2, a3⟩
  · obtain ⟨x1, e1⟩ := hst e1
    obtain ⟨x2, e2⟩ := hst e2
    exact h.sep k1 k2 r1 r2 ⟨h1.resolve_right x1, x1⟩ ⟨h2.resolve_right x2, x2⟩ hne e1 e2 b hb1 hb2
theorem wishF_upd (st : PS) (t : Int) (p : PWish) : updM (wishF st) t (some (wishV p)) = wishF { st with wish := upd st.wish t (some p) } := by
  funext k'
  unfold updM wishF
  by_cases e : k' = t
  · subst e; simp [upd_same]
  · simp [e, upd_other e]
theorem wishF_del (st : PS) (t : Int) : updM (wishF st) t none = wishF { st with wish := upd st.wish t none } := by
  funext k'
  unfold updM wishF
  by_cases e : k' = t
  · subst e; simp [upd_same]
  · simp [e, upd_other e]
/-- The wishes turn. -/
theorem TabIn.wishes (h : TabIn w F tb rb wb g m P st) {wi : Int → Option PWish} {m' : Nat} (hmm : m ≤ m') (hg : w.grownBy w' (some wb)) (hmap : MapAt Try.prog 3 okI iLit w' wb m' (wishF { st with wish := wi })) : TabIn w' F tb rb wb g m' P { st with wish := wi } := by
  have hk : ∀ b, b < w.heap.size → b ≠ wb → w'.heap[b]? = w.heap[b]? := fun b hb hne => hg.block b hb (fun e => hne (by injection e))
  exact { blk := (hk tb (h.lt _ h.f1) h.ne2).trans h.blk, w1 := h.w1, w2 := h.w2, map1 := (h.map1.block (hk rb (h.lt _ h.f2) h.ne3)).mono hmm, map2 := hmap
          rows := fun k r hP hr => by
            obtain ⟨a1, a2, a3⟩ := h.rows k r hP hr
            exact ⟨a1.kept fun b hb => hk b (a1.lt hb) (a3 b hb).2.2.2, Nat.le_trans a2 hmm, a3⟩
          sep := h.sep, ne1 := h.ne1, ne2 := h.ne2, ne3 := h.ne3, f1 := h.f1, f2 := h.f2, f3 := h.f3, lt := fun b hb => Nat.lt_of_lt_of_le (h.lt b hb) hg.size }
end
/-- A table in order at tb, of at most m rows and wishes, all of whose blocks are F. -/
def LockAt (w : World) (F : Nat → Prop) (tb m : Nat) (st : PS) : Prop := Inv st ∧ ∃ rb wb g, TabIn w F tb rb wb g m (fun _ => True) st
theorem LockAt.lt {w : World} {F : Nat → Prop} {tb m : Nat} {st : PS} (h : LockAt w F tb m st) : ∀ b, F b → b < w.heap.size := by obtain ⟨_, _, _, _, h⟩ := h; exact h.lt
theorem LockAt.moves {w w' : World} {F G : Nat → Prop} {tb m : Nat} {st : PS} (h : LockAt w F tb m st) (hm : Moves G w w') (hd : ∀ b, F b → ¬ G b) : LockAt w' F tb m st := by obtain ⟨i, _, _, _, h⟩ := h; exact ⟨i, _, _, _, h.moves hm hd⟩
theorem LockAt.below {w w' : World} {F : Nat → Prop} {tb m : Nat} {st : PS} (h : LockAt w F tb m st) (hb : Below w.heap.size w w') : LockAt w' F tb m st := h.moves (moves_of_below (F := fun _ => False) hb) fun _ _ e => e
/-- What a call on a table leaves. -/
def Does (F : Nat → Prop) (tb m : Nat) (st : PS) (v : Value) (w : World) (e : Ending) (w' : World) : Prop := e = .returned v ∧ LockAt w' (grow F w w') tb m st ∧ Moves F w w'
end Go.Proofs.Ytnfodidfhnofkaa
