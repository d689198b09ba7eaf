/- Rows of elements of several cells: append of elements and of slices, for any kind of element. -/
import Derived.Test.YtnfodidfhnofkaaIe
import Derived.Deep.RegionLaw
namespace Go.Proofs.Ytnfodidfhnofkaa
open Go.RowKit Go.Deep Go.Maps Go.Lib

/-- A kind of element: its cells, its type, the type of a slice of them. -/
structure Elt (α : Type) where
  enc : α → List Value
  n : Nat
  et : TypeId
  st : TypeId
  bytes : Nat
  z : Value
  len : ∀ x, (enc x).length = n
  one : ∀ x, ∀ v ∈ enc x, v.oneCell' = true
  under : Try.prog.underlying st = some (.slice et)
  info : ∃ i, Try.prog.info? et = some i ∧ i.zero = some z ∧ i.size = n ∧ i.bytes = bytes
  hzs : z.cells.size = n
  pos : 0 < n
  small : bytes ≤ 1000
section
variable {α : Type}
def ERow (E : Elt α) (base : Nat) (w : World) (v : Value) (l : List α) : Prop := w.ownsRow base E.et E.n v l.length (l.flatMap E.enc)
/-- The elements lie from A on. -/
def EIn (E : Elt α) (w : World) (A : Option Addr) (l : List α) : Prop := l = [] ∨ ∃ b off, A = some ⟨b, off, none⟩ ∧ ∀ j x, l[j]? = some x → ∀ i v, (E.enc x)[i]? = some v → w.cell? ⟨b, off + j * E.n + i, none⟩ = some v
theorem ERow.lt {E : Elt α} {base : Nat} {w : World} {v : Value} {l : List α} (h : ERow E base w v l) : ∀ b, v.ownBlock = some b → base ≤ b ∧ b < w.heap.size := fun b hb => World.ownsRow.lt h b hb
theorem ERow.kept {E : Elt α} {base : Nat} {w w' : World} {v : Value} {l : List α} (h : ERow E base w v l) (hb : ∀ b, v.ownBlock = some b → w'.heap[b]? = w.heap[b]?) : ERow E base w' v l := by
  refine ⟨h.1, ?_⟩
  rcases h.2 with h0 | ⟨g, cap, cur, rfl, h2, h3, h4⟩
  · exact .inl h0
  · exact .inr ⟨g, cap, cur, rfl, h2, (hb g rfl).trans h3, h4⟩
theorem ERow.below {E : Elt α} {base : Nat} {w w' : World} {v : Value} {l : List α} (h : ERow E base w v l) (hb : Below w.heap.size w w') : ERow E base w' v l := h.kept fun k hk => hb.block k (h.lt k hk).2
theorem ERow.base {E : Elt α} {B B' : Nat} {w : World} {v : Value} {l : List α} (h : ERow E B w v l) (hB : B' ≤ B) : ERow E B' w v l := by
  refine ⟨h.1, ?_⟩
  rcases h.2 with h0 | ⟨g, cap, cur, h1, h2, h3⟩
  · exact .inl h0
  · exact .inr ⟨g, cap, cur, h1, Nat.le_trans hB h2, h3⟩
theorem ERow.slice {E : Elt α} {B : Nat} {w : World} {v : Value} {l : List α} (h : ERow E B w v l) : ∃ A c, v = .slice A l.length c := by
  rcases h.2 with ⟨rfl, e⟩ | ⟨g, cap, _, rfl, _⟩
  · exact ⟨none, 0, by rw [e]⟩
  · exact ⟨_, _, rfl⟩
theorem ERow.sliceN {E : Elt α} {B : Nat} {w : World} {v : Value} {l : List α} (h : ERow E B w v l) : ∃ A n c, v = .slice A n c ∧ n = l.length := by
  obtain ⟨A, c, e⟩ := h.slice
  exact ⟨A, _, c, e, rfl⟩
theorem ERow.at {E : Elt α} {B n c : Nat} {w : World} {A : Option Addr} {l : List α} (h : ERow E B w (.slice A n c) l) (hl : 0 < l.length) : ∃ g, A = some ⟨g, 0, none⟩ ∧ B ≤ g ∧ g < w.heap.size ∧ l.length ≤ c := by
  rcases h.2 with ⟨e, h0⟩ | ⟨g, cap, cur, e, h1, h2, h3, h4⟩
  · omega
  · simp only [Value.slice.injEq] at e
    obtain ⟨rfl, _, rfl⟩ := e
    exact ⟨g, rfl, h1, (Array.getElem?_eq_some_iff.1 h2).1, h3⟩
theorem ERow.cap {E : Elt α} {B n c : Nat} {w : World} {A : Option Addr} {l : List α} (h : ERow E B w (.slice A n c) l) : (A = none → c = 0) ∧ l.length ≤ c ∧ c ≤ maxLen := by
  rcases h.2 with ⟨e, h0⟩ | ⟨g, cap, cur, e, h1, h2, h3, h4, _⟩
  · simp only [Value.slice.injEq] at e
    obtain ⟨rfl, _, rfl⟩ := e
    exact ⟨fun _ => rfl, by omega, Nat.zero_le _⟩
  · simp only [Value.slice.injEq] at e
    obtain ⟨rfl, _, rfl⟩ := e
    exact ⟨fun e => (by cases e), h3, h4⟩
theorem ERow.cell {E : Elt α} {B n c g : Nat} {w : World} {l : List α} (h : ERow E B w (.slice (some ⟨g, 0, none⟩) n c) l) {i : Nat} {x : α} (hx : l[i]? = some x) : ∀ j v, (E.enc x)[j]? = some v → w.cell? ⟨g, i * E.n + j, none⟩ = some v := fun j v hj => by
  have hj8 : j < E.n := by have := (List.getElem?_eq_some_iff.1 hj).1; rwa [E.len] at this
  have h1 := flatMap_get E.len l i j x hx hj8
  rcases h.2 with ⟨e, _⟩ | ⟨g', cap', cur, e, _, h2, _, _, _, h6⟩
  · cases e
  · simp only [Value.slice.injEq, Option.some.injEq, Addr.mk.injEq, and_true] at e
    obtain ⟨rfl, _, rfl⟩ := e
    have hil : i < l.length := (List.getElem?_eq_some_iff.1 hx).1
    have hlt : i * E.n + j < l.length * E.n := by
      have : (i + 1) * E.n ≤ l.length * E.n := Nat.mul_le_mul_right _ hil
      rw [Nat.add_mul, Nat.one_mul] at this
      omega
    rw [← h6, List.getElem?_take_of_lt hlt, Array.getElem?_toList, hj] at h1
    simp [World.cell?, h2, h1]
theorem ERow.in_all {E : Elt α} {B n c : Nat} {w : World} {A : Option Addr} {l : List α} (h : ERow E B w (.slice A n c) l) : EIn E w A l := by
  rcases Nat.eq_zero_or_pos l.length with h0 | h0
  · exact .inl (List.eq_nil_of_length_eq_zero h0)
  · obtain ⟨g, rfl, _⟩ := h.at h0
    exact .inr ⟨g, 0, rfl, fun j x hx i v hv => by rw [Nat.zero_add]; exact h.cell hx i v hv⟩
theorem EIn.take {E : Elt α} {w : World} {A : Option Addr} {l : List α} (h : EIn E w A l) (m : Nat) : EIn E w A (l.take m) := by
  rcases h with rfl | ⟨b, off, e, hc⟩
  · exact .inl (by simp)
  · refine .inr ⟨b, off, e, fun j x hx => hc j x ?_⟩
    rw [List.getElem?_take] at hx
    split at hx
    · exact hx
    · cases hx
theorem EIn.drop {E : Elt α} {w : World} {b off : Nat} {l : List α} (h : EIn E w (some ⟨b, off, none⟩) l) (m : Nat) : EIn E w (some ⟨b, off + m * E.n, none⟩) (l.drop m) := by
  rcases h with rfl | ⟨b', off', e, hc⟩
  · exact .inl (by simp)
  · simp only [Option.some.injEq, Addr.mk.injEq, and_true] at e
    obtain ⟨rfl, rfl⟩ := e
    refine .inr ⟨b, _, rfl, fun j x hx i v hv => ?_⟩
    rw [List.getElem?_drop] at hx
    have := hc (m + j) x hx i v hv
    rw [Nat.add_mul] at this
    rw [show off + m * E.n + j * E.n + i = off + (m * E.n + j * E.n) + i by omega]
    exact this
theorem EIn.nil (E : Elt α) (w : World) (A : Option Addr) : EIn E w A [] := .inl rfl
theorem EIn.below {E : Elt α} {w w' : World} {A : Option Addr} {l : List α} (h : EIn E w A l) (hb : ∀ b off, A = some ⟨b, off, none⟩ → w'.heap[b]? = w.heap[b]?) : EIn E w' A l := by
  rcases h with rfl | ⟨b, off, e, hc⟩
  · exact .inl rfl
  · exact .inr ⟨b, off, e, fun j x hx i v hv => (World.cell?_of_block (a := ⟨b, off + j * E.n + i, none⟩) (hb b off e)).trans (hc j x hx i v hv)⟩
theorem EIn.new (E : Elt α) (w : World) (x : α) (t : TypeId) : EIn E (w.alloc (.cells (E.enc x).toArray t)) (some ⟨w.heap.size, 0, none⟩) [x] := by
  refine .inr ⟨_, _, rfl, fun j y hy i v hv => ?_⟩
  have hj : j = 0 := by have := (List.getElem?_eq_some_iff.1 hy).1; simpa using this
  subst hj
  simp only [List.getElem?_cons_zero, Option.some.injEq] at hy
  subst hy
  rw [World.cell?_alloc_new]
  simpa using hv
/-- An append, as one step. -/
theorem step_appendE (E : Elt α) {o : Oper} {a : Act} {K : Act → World → Prop} {Q : Exit → Act → World → Prop} (W : World) (s x : Operand) (ho : o.op = .call { callee := .builtin .append, args := #[s, x], argTypes := #[E.st, E.st] })
    (base : Nat) (v : Value) (l : List α) (hs : a.eval s = v) (hown : ERow E base W v l) (A : Option Addr) (l2 : List α) (m c : Nat) (hx : a.eval x = .slice A m c) (hm : l2.length = m) (hin : EIn E W A l2) (hnil : A = none → c = 0) (hlen : l.length + m ≤ 4000) (hbase : base ≤ W.heap.size)
    (h : ∀ v' w', ERow E base w' v' (l ++ l2) → W.grownBy w' v.ownBlock → (v'.ownBlock = v.ownBlock ∨ v'.ownBlock = some W.heap.size) → K (a.put o.dst v') w') : Oper.wp Try.prog o a W K Q := by
  cases A with
  | none =>
    obtain rfl : l2 = [] := by rcases hin with h | ⟨_, _, e, _⟩; exact h; cases e
    obtain rfl := hnil rfl
    obtain rfl : m = 0 := hm.symm
    obtain ⟨i0, hi, _, _, _⟩ := E.info
    have hrun := run_append_owned_none (P := Try.prog) (w := W) base E.st o.type E.et i0 E.n E.under hi v l.length _ hown
    unfold Oper.wp
    simp [execOp, ho, resolve, invoke, builtin, hs, hx, hrun, Result.andThen]
    exact h v W (by rw [List.append_nil]; exact hown) ⟨rfl, rfl, rfl, Nat.le_refl _, fun _ _ _ => rfl⟩ (.inl rfl)
  | some ad =>
    have hnews : ∀ j u, (l2.flatMap E.enc)[j]? = some u → W.cell? (ad.add j) = some u := fun j u hu => by
      have hj : j < l2.length * E.n := by have := (List.getElem?_eq_some_iff.1 hu).1; rwa [flatMap_len E.len] at this
      have hi : j / E.n < l2.length := Nat.div_lt_of_lt_mul (by rw [Nat.mul_comm]; exact hj)
      have hr : j % E.n < E.n := Nat.mod_lt _ E.pos
      have hd : j / E.n * E.n + j % E.n = j := Nat.div_add_mod' _ _
      have h1 := flatMap_get E.len l2 (j / E.n) (j % E.n) _ (List.getElem?_eq_getElem hi) hr
      rw [hd, hu] at h1
      rcases hin with e | ⟨b, off, e, hc⟩
      · rw [e] at hj; simp at hj
      · obtain rfl := Option.some.inj e
        have := hc _ _ (List.getElem?_eq_getElem hi) _ _ h1.symm
        rw [show off + j / E.n * E.n + j % E.n = off + j by omega] at this
        rw [Go.WideShapes.add_plain]
        exact this
    have hb : (l.length + m) * E.bytes ≤ 140737488355328 := Nat.le_trans (Nat.mul_le_mul hlen E.small) (by decide)
    obtain ⟨i0, hi, hz0, hz1, hz2⟩ := E.info
    obtain ⟨v', w', hr, h2, h3, _, h5⟩ := run_append_own_at (P := Try.prog) W base E.st o.type E.et i0 E.z E.n E.bytes E.under hi hz0 hz1 hz2 E.hzs E.pos v l.length _ hown ad m c (l2.flatMap E.enc) (by rw [flatMap_len E.len, hm]) hnews (fun u hu => by obtain ⟨x, _, hx⟩ := List.mem_flatMap.1 hu; exact E.one x u hx) (by unfold maxLen; omega) hb hbase
    unfold Oper.wp execOp
    simp only [ho, resolve, invoke, builtin, Sem.run_bind, Sem.run_pure, Result.andThen_ok, List.map_toArray, List.map_cons, List.map_nil, hs, hx, hr]
    refine h v' w' ?_ h3 h5
    unfold ERow
    rw [List.length_append, List.flatMap_append, hm]
    exact h2
theorem wpList_appendE (E : Elt α) {ops : Array Oper} {rest : List Oper} {o : Oper} {a : Act} {Q : Exit → Act → World → Prop} (W : World) (hgd : o.guard = none) (s x : Operand) (ho : o.op = .call { callee := .builtin .append, args := #[s, x], argTypes := #[E.st, E.st] })
    (base : Nat) (v : Value) (l : List α) (hs : a.eval s = v) (hown : ERow E base W v l) (A : Option Addr) (l2 : List α) (m c : Nat) (hx : a.eval x = .slice A m c) (hm : l2.length = m) (hin : EIn E W A l2) (hnil : A = none → c = 0) (hlen : l.length + m ≤ 4000) (hbase : base ≤ W.heap.size)
    (h : ∀ v' w', ERow E base w' v' (l ++ l2) → W.grownBy w' v.ownBlock → (v'.ownBlock = v.ownBlock ∨ v'.ownBlock = some W.heap.size) → wpList Try.prog ops Q rest (a.put o.dst v') w') : wpList Try.prog ops Q (o :: rest) a W :=
  wpList_plain hgd fun _ hK => step_appendE E W s x ho base v l hs hown A l2 m c hx hm hin hnil hlen hbase fun v' w' h1 h2 h3 => hK _ _ (h v' w' h1 h2 h3)
/-- The same, where go_region_law asks for it. -/
theorem step_appendI (E : Elt α) {ops : Array Oper} {o : Oper} {a : Act} {K : Act → World → Prop} {Q : Exit → Act → World → Prop} {Z : Prop} (W : World) (hgd : o.guard = none) (s x : Operand) (ho : o.op = .call { callee := .builtin .append, args := #[s, x], argTypes := #[E.st, E.st] })
    (base : Nat) (v : Value) (l : List α) (hs : a.eval s = v) (hown : ERow E base W v l) (A : Option Addr) (l2 : List α) (m c : Nat) (hx : a.eval x = .slice A m c) (hm : l2.length = m) (hin : EIn E W A l2) (hnil : A = none → c = 0) (hlen : l.length + m ≤ 4000) (hbase : base ≤ W.heap.size)
    (h : ∀ v' w', ERow E base w' v' (l ++ l2) → W.grownBy w' v.ownBlock → (v'.ownBlock = v.ownBlock ∨ v'.ownBlock = some W.heap.size) → K (a.put o.dst v') w') : if Region.wanted o (yielded ops a.tmps) = true then Oper.wp Try.prog o a W K Q else Z := by
  have hw : Region.wanted o (yielded ops a.tmps) = true := by simp [Region.wanted, hgd]
  rw [if_pos hw]
  exact step_appendE E W s x ho base v l hs hown A l2 m c hx hm hin hnil hlen hbase h
/-- An empty row of one's own: '[]T{}'. -/
theorem ERow.made (E : Elt α) (base : Nat) (w : World) (hb : base ≤ w.heap.size) : ERow E base (w.alloc (.cells #[] E.et)) (.slice (some ⟨w.heap.size, 0, none⟩) 0 0) [] := World.ownsRow_made w #[] 0 hb (Nat.zero_le _) (by simp)
theorem ERow.nil (E : Elt α) (base : Nat) (w : World) : ERow E base w (.slice none 0 0) [] := ⟨by simp, .inl ⟨rfl, rfl⟩⟩
end
set_option maxRecDepth 100000 in
theorem infoK : (Try.prog.info? 24).map (fun i => (i.zero, i.size, i.bytes)) = some (some (.agg #[.int .u8 0, .int .u8 0, .int .u8 0, .int .u8 0]), 4, 4) := by kernel_rfl
def eltQ : Elt RHold where
  enc := hq
  n := 8
  et := 74
  st := 59
  bytes := 32
  z := .agg #[.int .i64 0, .int .u8 0, .int .u8 0, .int .u8 0, .int .u8 0, .bool false, .int .i64 0, .bool false]
  len := hq_len
  one := hq_one
  under := Try.underlying59
  info := info_parts infoHold
  hzs := rfl
  pos := by decide
  small := by decide
def eltK : Elt KeyT where
  enc := kv
  n := 4
  et := 24
  st := 42
  bytes := 4
  z := .agg #[.int .u8 0, .int .u8 0, .int .u8 0, .int .u8 0]
  len := kv_len
  one := kv_one
  under := Try.underlying42
  info := info_parts infoK
  hzs := rfl
  pos := by decide
  small := by decide
def encI (t : Int) : List Value := [.int .i64 t]
def eltI : Elt Int where
  enc := encI
  n := 1
  et := 3
  st := 46
  bytes := 8
  z := .int .i64 0
  len := fun _ => rfl
  one := fun x v hv => by simp [encI] at hv; subst hv; rfl
  under := Try.underlying46
  info := info_parts infoInt
  hzs := rfl
  pos := by decide
  small := by decide
theorem qrow_is {B : Nat} {w : World} {v : Value} {l : List RHold} : QRow B w v l ↔ ERow eltQ B w v l := Iff.rfl
theorem keys_is {B : Nat} {w : World} {v : Value} {l : List KeyT} : KeysAt w B v l ↔ ERow eltK B w v l := Iff.rfl
theorem encI_map (l : List Int) : l.flatMap encI = l.map (Value.int .i64) := by induction l with
  | nil => rfl
  | cons x l ih => rw [List.flatMap_cons, ih]; rfl
theorem ints_is {B : Nat} {w : World} {v : Value} {l : List Int} : IntsAt w B v l ↔ ERow eltI B w v l := by
  unfold IntsAt ERow
  show _ ↔ w.ownsRow B 3 1 v l.length (l.flatMap encI)
  rw [encI_map]
end Go.Proofs.Ytnfodidfhnofkaa
