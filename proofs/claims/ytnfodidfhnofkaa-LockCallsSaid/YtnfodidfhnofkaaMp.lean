/- Maps in memory whose elements are any values, told as functions of their keys: look-up, store, delete, range. Of no program, for any stage. -/
import Derived.Maps.OwnSet
import Derived.Maps.RangeWalk
import Derived.RowKit
namespace Go.Proofs.Ytnfodidfhnofkaa
open Go.Maps

/-- An element reads as itself. -/
def heldR (v : Value) : Option (DataW Value × List MemPlace) := some (.held v, [])
/-- Keys of type kt are those values that mk makes of what is ok. -/
structure KeyKind (P : Program) (kt : TypeId) {α : Type} (mk : α → Value) (ok : α → Prop) (lit : α → Lit) : Prop where
  law : Keyed P kt
  is : ∀ x, ok x → keyOf P kt (mk x) = some (lit x)
  inv : ∀ v l, keyOf P kt v = some l → ∃ x, ok x ∧ v = mk x
  one : ∀ x y, mk x = mk y → x = y

section
variable {P : Program} {kt : TypeId} {α : Type} {mk : α → Value} {ok : α → Prop} {lit : α → Lit}

theorem KeyKind.lit_one (K : KeyKind P kt mk ok lit) {x y : α} (hx : ok x) (hy : ok y) (h : lit x = lit y) : x = y := K.one _ _ (K.law.inj (K.is x hx) (h ▸ K.is y hy))
def Reads (ok : α → Prop) (lit : α → Lit) (D : DataW Value) (f : α → Option Value) : Prop := ∀ x, ok x → Maps.has D (lit x) = (f x).isSome ∧ ∀ v, f x = some v → ∀ z, D.atKey (lit x) z = .held v
def updM [DecidableEq α] (f : α → Option Value) (x : α) (y : Option Value) : α → Option Value := fun z => if z = x then y else f z
/-- Block b is a map of at most m entries, which has f x at the key x. -/
def MapAt (P : Program) (kt : TypeId) (ok : α → Prop) (lit : α → Lit) (w : World) (b m : Nat) (f : α → Option Value) : Prop := ∃ D : DataW Value, w.ownsMap P kt heldR b m D ∧ Reads ok lit D f
variable {w : World} {b m : Nat} {f : α → Option Value}

theorem MapAt.lt (h : MapAt P kt ok lit w b m f) : b < w.heap.size := by obtain ⟨D, h, _⟩ := h; exact h.lt
theorem MapAt.mono (h : MapAt P kt ok lit w b m f) {m' : Nat} (hm : m ≤ m') : MapAt P kt ok lit w b m' f := by obtain ⟨D, h, r⟩ := h; exact ⟨D, h.mono hm, r⟩
theorem MapAt.block {w' : World} (h : MapAt P kt ok lit w b m f) (hb : w'.heap[b]? = w.heap[b]?) : MapAt P kt ok lit w' b m f := by
  obtain ⟨D, ⟨es, clock, h1, h2⟩, r⟩ := h; exact ⟨D, ⟨es, clock, hb.trans h1, h2⟩, r⟩
theorem MapAt.made (w : World) (P : Program) (kt : TypeId) (ok : α → Prop) (lit : α → Lit) : MapAt P kt ok lit (w.alloc (.map #[] 0)) w.heap.size 0 (fun _ => none) :=
  ⟨.map [], World.ownsMap_made w P kt heldR, fun x _ => ⟨rfl, fun v h => by cases h⟩⟩
theorem MapAt.look (K : KeyKind P kt mk ok lit) (h : MapAt P kt ok lit w b m f) {t e : TypeId} (ht : P.underlying t = some (.map kt e)) {z : Value} (hz : (zeroValue e).run P w = .ok z w) {x : α} (hx : ok x) :
    (Instr.lookup t (.map (some b)) (mk x) false).run P w = .ok ((f x).getD z) w := by
  obtain ⟨D, hown, hr⟩ := h
  obtain ⟨v, ps, hrun, hv⟩ := hown.lookup K.law ht hz (zd := .held z) (zp := []) rfl (K.is x hx)
  obtain ⟨h1, h2⟩ := hr x hx
  rw [hrun]
  cases hf : f x with
  | none =>
    rw [hf] at h1
    rw [Maps.atKey_of_not_has h1] at hv
    simp only [heldR, Option.some.injEq, Prod.mk.injEq, DataW.held.injEq] at hv
    rw [hv.1]; rfl
  | some y =>
    rw [h2 y hf] at hv
    simp only [heldR, Option.some.injEq, Prod.mk.injEq, DataW.held.injEq] at hv
    rw [hv.1]; rfl
theorem MapAt.look_ok (K : KeyKind P kt mk ok lit) (h : MapAt P kt ok lit w b m f) {t e : TypeId} (ht : P.underlying t = some (.map kt e)) {z : Value} (hz : (zeroValue e).run P w = .ok z w) {x : α} (hx : ok x) :
    (Instr.lookup t (.map (some b)) (mk x) true).run P w = .ok (.tuple #[(f x).getD z, .bool (f x).isSome]) w := by
  obtain ⟨D, hown, hr⟩ := h
  obtain ⟨v, ps, hrun, hv⟩ := hown.look_ok K.law ht hz (zd := .held z) (zp := []) rfl (K.is x hx)
  obtain ⟨h1, h2⟩ := hr x hx
  rw [hrun, h1]
  cases hf : f x with
  | none =>
    rw [hf] at h1
    rw [Maps.atKey_of_not_has h1] at hv
    simp only [heldR, Option.some.injEq, Prod.mk.injEq, DataW.held.injEq] at hv
    rw [hv.1]; rfl
  | some y =>
    rw [h2 y hf] at hv
    simp only [heldR, Option.some.injEq, Prod.mk.injEq, DataW.held.injEq] at hv
    rw [hv.1]; rfl
theorem Reads.put [DecidableEq α] (K : KeyKind P kt mk ok lit) {D : DataW Value} (hD : IsMap D) (h : Reads ok lit D f) {x : α} (hx : ok x) (v : Value) : Reads ok lit (D.put (lit x) (.held v)) (updM f x (some v)) := by
  intro y hy
  have hk := K.law.key (K.is x hx)
  by_cases e : y = x
  · subst e
    refine ⟨by rw [Maps.has_put_same hD hk]; simp [updM], fun u hu z => ?_⟩
    simp only [updM, if_true, Option.some.injEq] at hu
    rw [Maps.atKey_put_same hD hk, hu]
  · have hne : lit y ≠ lit x := fun e' => e (K.lit_one hy hx e')
    refine ⟨by rw [Maps.has_put_other hne]; simp [updM, e, (h y hy).1], fun u hu z => ?_⟩
    simp only [updM, if_neg e] at hu
    rw [Maps.atKey_put_other hne]
    exact (h y hy).2 u hu z
theorem Reads.del [DecidableEq α] (K : KeyKind P kt mk ok lit) {D : DataW Value} (h : Reads ok lit D f) {x : α} (hx : ok x) : Reads ok lit (D.del (lit x)) (updM f x none) := by
  intro y hy
  by_cases e : y = x
  · subst e
    refine ⟨by rw [Maps.has_del_same]; simp [updM], fun u hu z => ?_⟩
    simp [updM] at hu
  · have hne : lit y ≠ lit x := fun e' => e (K.lit_one hy hx e')
    refine ⟨by rw [Maps.has_del_other hne]; simp [updM, e, (h y hy).1], fun u hu z => ?_⟩
    simp only [updM, if_neg e] at hu
    rw [Maps.atKey_del_other hne]
    exact (h y hy).2 u hu z
theorem ownsMap_size {D : DataW Value} (h : w.ownsMap P kt heldR b m D) : w.ownsMap P kt heldR b (Maps.size D) D := by
  obtain ⟨es, clock, h1, F, hs, rfl⟩ := h
  refine ⟨es, clock, h1, F, ?_, rfl⟩
  simp [Maps.size, length_sorted]
/-- How many entries there may be behind a store. -/
def grown (m : Nat) (o : Option Value) : Nat := if o.isSome then m else m + 1
theorem MapAt.put [DecidableEq α] (K : KeyKind P kt mk ok lit) (h : MapAt P kt ok lit w b m f) {t e : TypeId} (ht : P.underlying t = some (.map kt e)) (hm : m < maxLen) {x : α} (hx : ok x) (v : Value) :
    ∃ w', (Instr.mapUpdate t (.map (some b)) (mk x) v).run P w = .ok () w' ∧ MapAt P kt ok lit w' b (grown m (f x)) (updM f x (some v)) ∧ w.grownBy w' (some b) := by
  obtain ⟨D, hown, hr⟩ := h
  obtain ⟨w', hrun, h1, h2⟩ := hown.update K.law ht hm (d := .held v) (ps := []) (K.is x hx) rfl
  refine ⟨w', hrun, ⟨_, (ownsMap_size h1).mono ?_, hr.put K hown.isMap hx v⟩, h2⟩
  rw [Maps.size_put (hown.tidy K.law)]
  have := hown.size_le
  unfold grown
  rw [(hr x hx).1]
  split <;> omega
theorem wpList_put [DecidableEq α] (K : KeyKind P kt mk ok lit) {ops : Array Oper} {rest : List Oper} {o : Oper} {a : Act} {Q : Exit → Act → World → Prop} (hg : o.guard = none) (mo x vo : Operand) (t : TypeId) (hop : o.op = Op.mapUpdate t mo x vo)
    (e : TypeId) (ht : P.underlying t = some (.map kt e)) (b m : Nat) (f : α → Option Value) (hmo : a.eval mo = .map (some b)) (h : MapAt P kt ok lit w b m f) (hm : m < maxLen) (y : α) (v : Value) (hx : a.eval x = mk y) (hok : ok y) (hv : a.eval vo = v)
    (hK : ∀ w', MapAt P kt ok lit w' b (grown m (f y)) (updM f y (some v)) → w.grownBy w' (some b) → wpList P ops Q rest (a.put o.dst undef) w') : wpList P ops Q (o :: rest) a w := by
  refine wpList_plain hg fun K' hK' => ?_
  obtain ⟨w', hrun, r1, r2⟩ := h.put K ht hm hok v
  unfold Oper.wp
  simp [execOp, hop, hmo, hx, hv, hrun, Result.andThen]
  exact hK' _ _ (hK w' r1 r2)
theorem wpList_del [DecidableEq α] (K : KeyKind P kt mk ok lit) {ops : Array Oper} {rest : List Oper} {o : Oper} {a : Act} {Q : Exit → Act → World → Prop} (hg : o.guard = none) (mo x : Operand) (t : TypeId) (hop : o.op = Op.call { callee := Callee.builtin Builtin.delete, args := #[mo, x], argTypes := #[t, kt] })
    (e : TypeId) (ht : P.underlying t = some (.map kt e)) (b m : Nat) (f : α → Option Value) (hmo : a.eval mo = .map (some b)) (h : MapAt P kt ok lit w b m f) (y : α) (hx : a.eval x = mk y) (hok : ok y)
    (hK : ∀ w', MapAt P kt ok lit w' b m (updM f y none) → w.grownBy w' (some b) → wpList P ops Q rest (a.put o.dst (.tuple #[])) w') : wpList P ops Q (o :: rest) a w := by
  obtain ⟨D, hown, hr⟩ := h
  exact wpList_delete_own w hg mo x t kt hop e K.law ht heldR b m D hmo hown (mk y) (lit y) hx (K.is y hok) fun w' h1 h2 => hK w' ⟨_, h1, hr.del K hok⟩ h2.grown

/-- Block r goes over the map in block b; left tells which keys are still to come. -/
def RangeAt (P : Program) (kt : TypeId) (ok : α → Prop) (lit : α → Lit) (w : World) (b r m : Nat) (f : α → Option Value) (left : α → Bool) (cnt : Nat) : Prop :=
  ∃ D ll, w.ranges P kt heldR b r m D ll cnt ∧ Reads ok lit D f ∧ ∀ x, ok x → ll (lit x) = left x
theorem RangeAt.map {r cnt : Nat} {left : α → Bool} (h : RangeAt P kt ok lit w b r m f left cnt) : MapAt P kt ok lit w b m f := by obtain ⟨D, ll, h1, h2, _⟩ := h; exact ⟨D, h1.owns, h2⟩
theorem RangeAt.left_eq {r cnt : Nat} {left : α → Bool} (h : RangeAt P kt ok lit w b r m f left cnt) : w.rangeLeft b r = cnt := by obtain ⟨D, ll, h1, _⟩ := h; exact h1.left_eq
theorem RangeAt.lt {r cnt : Nat} {left : α → Bool} (h : RangeAt P kt ok lit w b r m f left cnt) : r < w.heap.size := by obtain ⟨D, ll, h1, _⟩ := h; exact h1.lt
theorem RangeAt.ne {r cnt : Nat} {left : α → Bool} (h : RangeAt P kt ok lit w b r m f left cnt) : r ≠ b := by obtain ⟨D, ll, h1, _⟩ := h; exact h1.ne
theorem RangeAt.blocks {w' : World} {r cnt : Nat} {left : α → Bool} (h : RangeAt P kt ok lit w b r m f left cnt) (hb : w'.heap[b]? = w.heap[b]?) (hr : w'.heap[r]? = w.heap[r]?) : RangeAt P kt ok lit w' b r m f left cnt := by
  obtain ⟨D, ll, ⟨es, clock, since, seen, c0, h1, h2, h3, h4, h5, h6⟩, hh⟩ := h
  exact ⟨D, ll, ⟨es, clock, since, seen, c0, hb.trans h1, h2, h3, h4, hr.trans h5, h6⟩, hh⟩
theorem wpList_range_map (K : KeyKind P kt mk ok lit) {ops : Array Oper} {rest : List Oper} {o : Oper} {a : Act} {Q : Exit → Act → World → Prop} (hg : o.guard = none) (mo : Operand) (t : TypeId) (hop : o.op = Op.range t mo) (e : TypeId) (ht : P.underlying t = some (.map kt e))
    (b m : Nat) (f : α → Option Value) (hmo : a.eval mo = .map (some b)) (h : MapAt P kt ok lit w b m f)
    (hK : ∀ w' cnt, cnt ≤ m → RangeAt P kt ok lit w' b w.heap.size m f (fun x => (f x).isSome) cnt → w.grownBy w' none → w'.heap.size = w.heap.size + 1 → wpList P ops Q rest (a.put o.dst (.pointer (some ⟨w.heap.size, 0, none⟩))) w') : wpList P ops Q (o :: rest) a w := by
  obtain ⟨D, hown, hr⟩ := h
  exact wpList_range_own w hg mo t hop kt e K.law ht heldR b m D hmo hown fun w' h1 h2 h3 => hK w' _ hown.size_le ⟨D, _, h1, hr, fun x hx => (hr x hx).1⟩ h2 h3
theorem wpList_next_map [DecidableEq α] (K : KeyKind P kt mk ok lit) {ops : Array Oper} {rest : List Oper} {o : Oper} {a : Act} {Q : Exit → Act → World → Prop} (hg : o.guard = none) (it : Operand) (hop : o.op = Op.next it false)
    (b r m : Nat) (f : α → Option Value) (left : α → Bool) (cnt : Nat) (hit : a.eval it = .pointer (some ⟨r, 0, none⟩)) (h : RangeAt P kt ok lit w b r m f left cnt)
    (hDone : cnt = 0 → (∀ x, ok x → left x = false) → wpList P ops Q rest (a.put o.dst (.tuple #[.bool false])) w)
    (hMore : ∀ (x : α) (v : Value) (w' : World) (cnt' : Nat), ok x → left x = true → f x = some v → RangeAt P kt ok lit w' b r m f (fun y => left y && !decide (y = x)) cnt' → cnt' < cnt →
      w.grownBy w' (some r) → w'.heap.size = w.heap.size → (Instr.entry (.pointer (some ⟨r, 0, none⟩))).run P w' = .ok (.tuple #[mk x, v]) w' → wpList P ops Q rest (a.put o.dst (.tuple #[.bool true, mk x, v])) w') :
    wpList P ops Q (o :: rest) a w := by
  obtain ⟨D, ll, hrg, hr, hl⟩ := h
  refine wpList_next_ranges w hg it hop kt K.law heldR (fun y : {x : α // ok x} => mk y.1) (fun v : Value => v) (fun v l hv => by obtain ⟨x, hx, e⟩ := K.inv v l hv; exact ⟨⟨x, hx⟩, e⟩) (fun v y _ => ⟨v, rfl⟩) b r m D ll cnt hit hrg (fun h0 hn => hDone h0 fun x hx => by rw [← hl x hx]; exact hn _) ?_
  rintro ⟨x, hx⟩ v kl y w' cnt' hkey hlk hv hat hrg' hlt hgr hsz hen
  have hkl : kl = lit x := by rw [K.is x hx] at hkey; exact (Option.some.inj hkey).symm
  subst hkl
  simp only [heldR, Option.some.injEq] at hv
  subst hv
  have hfx : f x = some v := by
    have h1 := (hr x hx).1
    rw [Maps.has_true_of_atKey (y := .held v) hat] at h1
    cases hf : f x with
    | none => rw [hf] at h1; cases h1
    | some u =>
      have h2 := (hr x hx).2 u hf .nil
      rw [hat] at h2
      simp only [DataW.held.injEq] at h2
      rw [h2]
  refine hMore x v w' cnt' hx (by rw [← hl x hx]; exact hlk) hfx ⟨D, _, hrg', hr, fun z hz => ?_⟩ hlt hgr hsz hen
  rw [hl z hz]
  by_cases e : z = x
  · subst e
    rw [WideAt.sameKey_self (K.law.key (K.is z hz))]
    simp
  · rw [Maps.sameKey_ne fun e' => e (K.lit_one hz hx e')]
    simp [e]
end
end Go.Proofs.Ytnfodidfhnofkaa
