/- Bytes in memory, for any stage: Good (a slice holds bytes), Owns (new bytes of one's own), append onto them, CopyBytes, SameBytes. The general part of Sb: never import both. -/
import Derived.Test.YtcodphddkkjocaaGreatDoorGa
import Derived.Laws.OwnMore
namespace Go.Proofs.YtcodphddkkjocaaGreatDoor
open Go.RowKit Go.Deep

def isBytes (zs : List Int) : Prop := ∀ z ∈ zs, 0 ≤ z ∧ z < 256
/-- A slice holds the bytes zs. -/
def Good (A : Option Addr) (c : Nat) (zs : List Int) (w : World) : Prop := Ints .u8 w.heap.size w A zs ∧ zs.length ≤ c ∧ (A = none → c = 0)
theorem Good.below {A : Option Addr} {c : Nat} {zs : List Int} {w w' : World} (h : Good A c zs w) (hb : Below w.heap.size w w') : Good A c zs w' := ⟨(h.1.below hb (Nat.le_refl _)).more hb.size, h.2⟩
theorem Good.alloc {A : Option Addr} {c : Nat} {zs : List Int} {w : World} (h : Good A c zs w) (o : Obj) : Good A c zs (w.alloc o) := h.below ((Below.refl _ _).alloc (Nat.le_refl _) o)
theorem Good.drewN {A : Option Addr} {c : Nat} {zs : List Int} {w : World} (h : Good A c zs w) (n : Nat) : Good A c zs (w.drewN n) := h.below (below_drewN (Below.refl _ _) n)
theorem Good.take {A : Option Addr} {c : Nat} {zs : List Int} {w : World} (h : Good A c zs w) (n : Nat) : Good A c (zs.take n) w := ⟨h.1.take n, by rw [List.length_take]; have := h.2.1; omega, h.2.2⟩
theorem Good.nil (w : World) : Good none 0 [] w := ⟨Ints.nil, by simp, fun _ => rfl⟩
theorem Good.drop {b off c : Nat} {zs : List Int} {w : World} (h : Good (some ⟨b, off, none⟩) c zs w) (n : Nat) (hn : n ≤ zs.length) : Good (some ⟨b, off + n, none⟩) (c - n) (zs.drop n) w := ⟨h.1.drop n, by rw [List.length_drop]; have := h.2.1; omega, fun e => by cases e⟩
theorem Good.some {A : Option Addr} {c : Nat} {zs : List Int} {w : World} (h : Good A c zs w) (h0 : 0 < zs.length) : ∃ b off, A = .some ⟨b, off, none⟩ := by
  obtain ⟨b, off, e, _⟩ := h.1 h0; exact ⟨b, off, e⟩

def Owns (B : Nat) (w : World) (v : Value) (zs : List Int) : Prop := w.ownsRow B 5 1 v zs.length (zs.map (Value.int .u8))
theorem Owns.good {B : Nat} {w : World} {v : Value} {zs : List Int} (h : Owns B w v zs) : ∃ A c, v = .slice A zs.length c ∧ Good A c zs w := by
  rcases h.2 with ⟨rfl, hn⟩ | ⟨g, cap, cur, rfl, _, hh, hnc, _, hsz, htk⟩
  · have : zs = [] := List.eq_nil_of_length_eq_zero hn
    subst this
    exact ⟨none, 0, rfl, Good.nil w⟩
  · refine ⟨some ⟨g, 0, none⟩, cap, rfl, fun _ => ⟨g, 0, rfl, (Array.getElem?_eq_some_iff.1 hh).1, fun j hj => ?_⟩, hnc, fun e => by cases e⟩
    have hc := World.ownsRow.cells h (g := g) rfl j (.int .u8 (zs[j]?.getD 0)) (by simp [hj])
    rw [Go.WideShapes.add_plain] at hc
    exact hc
theorem Owns.below {B : Nat} {w w' : World} {v : Value} {zs : List Int} (h : Owns B w v zs) (hb : Below w.heap.size w w') : Owns B w' v zs :=
  World.ownsRow.kept h (row := none) ⟨hb.os, hb.tape, hb.output, hb.size, fun j hj _ => hb.block j hj⟩ (by cases hv : v.ownBlock <;> simp)

/-- A call that answers new bytes, which no one else has. -/
def GivesB (zs : List Int) (w : World) (e : Ending) (w' : World) : Prop := ∃ v, e = .returned v ∧ Owns w.heap.size w' v zs ∧ Below w.heap.size w w'

/-! ### Bytes appended to bytes of one's own -/
theorem cells_of_good {A : Option Addr} {ad : Addr} {c : Nat} {ts : List Int} {W : World} (e : A = some ad) (g : Good A c ts W) : ∀ (j : Nat) (u : Value), (ts.map (Value.int .u8))[j]? = some u → W.cell? (ad.add j) = some u := by
  intro j u hu
  have hj : j < ts.length := by
    rcases Nat.lt_or_ge j ts.length with hlt | hge
    · exact hlt
    · rw [List.getElem?_eq_none (by simpa using hge)] at hu; cases hu
  obtain ⟨b, off, e2, hb, hcell⟩ := g.1 (by omega)
  rw [e] at e2
  obtain rfl : ad = ⟨b, off, none⟩ := by injection e2
  rw [Go.WideShapes.add_plain, hcell j hj]
  simpa [hj] using hu
theorem one_u8 (ts : List Int) : ∀ u ∈ ts.map (Value.int .u8), u.oneCell' = true := by
  intro u hu
  simp only [List.mem_map] at hu
  obtain ⟨z, _, rfl⟩ := hu
  rfl
theorem Good.none_nil {c : Nat} {ts : List Int} {W : World} (g : Good none c ts W) : ts = [] ∧ c = 0 := by
  refine ⟨?_, g.2.2 rfl⟩
  rcases Nat.eq_zero_or_pos ts.length with h0 | h0
  · exact List.eq_nil_of_length_eq_zero h0
  · obtain ⟨b, off, e, _⟩ := g.1 h0; cases e
theorem wpList_appendB {ops : Array Oper} {rest : List Oper} {o : Oper} {a : Act} {Q : Exit → Act → World → Prop} {W : World} (hgd : o.guard = none) (s x : Operand) (ho : o.op = .call { callee := .builtin .append, args := #[s, x], argTypes := #[25, 25] })
    (base : Nat) (v : Value) (zs : List Int) (hs : a.eval s = v) (hown : Owns base W v zs) (A' : Option Addr) (ts : List Int) (l' c' : Nat) (hx : a.eval x = .slice A' l' c') (hll : ts.length = l') (g : Good A' c' ts W) (hl : zs.length + ts.length ≤ 10000) (hbase : base ≤ W.heap.size) (w0 : World) (hb : Below base w0 W)
    (h : ∀ v' w', Owns base w' v' (zs ++ ts) → Below base w0 w' → wpList Tryz.prog ops Q rest (a.put o.dst v') w') : wpList Tryz.prog ops Q (o :: rest) a W := by
  obtain ⟨i0, hi, hz0, hz1, hz2⟩ := info_parts info_u8
  cases A' with
  | none =>
    obtain ⟨rfl, rfl⟩ := g.none_nil
    obtain rfl : l' = 0 := by simpa using hll.symm
    refine wpList_append_own_none hgd s x 25 ho base 5 i0 1 Tryz.underlying25 hi v _ _ hs hown hx (h v W ?_ hb)
    rw [List.append_nil]; exact hown
  | some ad =>
    refine wpList_append_own W hgd s x 25 ho base 5 i0 (.int .u8 0) 1 1 Tryz.underlying25 hi hz0 hz1 hz2 rfl (by decide) v zs.length _ hs hown ad l' c' (ts.map (Value.int .u8)) hx (by simp [hll]) (cells_of_good rfl g) (one_u8 ts) (by simp only [maxLen]; omega) (by omega) hbase (fun v' w' hown' hgrow _ => h v' w' ?_ (hb.grown hgrow hbase (fun k e => (World.ownsRow.lt hown k e).1)))
    unfold Owns
    rw [List.length_append, List.map_append, hll]
    exact hown'

/-- The same of an operation that is guarded, where the guard says yes. -/
theorem wpList_appendW {ops : Array Oper} {rest : List Oper} {o : Oper} {a : Act} {Q : Exit → Act → World → Prop} {W : World} (hw : Region.wanted o (yielded ops a.tmps) = true) (s x : Operand) (ho : o.op = .call { callee := .builtin .append, args := #[s, x], argTypes := #[25, 25] })
    (base : Nat) (v : Value) (zs : List Int) (hs : a.eval s = v) (hown : Owns base W v zs) (A' : Option Addr) (ts : List Int) (l' c' : Nat) (hx : a.eval x = .slice A' l' c') (hll : ts.length = l') (g : Good A' c' ts W) (hl : zs.length + ts.length ≤ 10000) (hbase : base ≤ W.heap.size) (w0 : World) (hb : Below base w0 W)
    (h : ∀ v' w', Owns base w' v' (zs ++ ts) → Below base w0 w' → wpList Tryz.prog ops Q rest (a.put o.dst v') w') : wpList Tryz.prog ops Q (o :: rest) a W := by
  obtain ⟨i0, hi, hz0, hz1, hz2⟩ := info_parts info_u8
  refine BigFrame.wpList_want hw fun K hK => ?_
  cases A' with
  | none =>
    obtain ⟨rfl, rfl⟩ := g.none_nil
    obtain rfl : l' = 0 := by simpa using hll.symm
    have hrun := run_append_owned_none (P := Tryz.prog) (w := W) base 25 o.type 5 i0 1 Tryz.underlying25 hi v _ _ hown
    unfold Oper.wp
    simp [execOp, ho, resolve, invoke, builtin, hs, hx, hrun, Result.andThen]
    exact hK _ _ (h v W (by rw [List.append_nil]; exact hown) hb)
  | some ad =>
    refine wp_append_own W s x 25 ho base 5 i0 (.int .u8 0) 1 1 Tryz.underlying25 hi hz0 hz1 hz2 rfl (by decide) v zs.length _ hs hown ad l' c' (ts.map (Value.int .u8)) hx (by simp [hll]) (cells_of_good rfl g) (one_u8 ts) (by simp only [maxLen]; omega) (by omega) hbase (fun v' w' hown' hgrow _ => hK _ _ (h v' w' ?_ (hb.grown hgrow hbase (fun k e => (World.ownsRow.lt hown k e).1))))
    unfold Owns
    rw [List.length_append, List.map_append, hll]
    exact hown'

/-! ### Bytes copied -/
theorem sameB (A A' : Option Addr) (xs ys : List Int) (c c' l l' : Nat) (o : Bool) (hll : xs.length = l) (hll' : ys.length = l') (hl : l ≤ 2200) (hl' : l' ≤ 2200) (ho : (xs == ys) = o) (w : World) (h : Good A c xs w) (h' : Good A' c' ys w) :
    Calls Tryz.prog 20 #[.slice A l c, .slice A' l' c'] w fun e w' => e = .returned (.bool o) ∧ Below w.heap.size w w' := by
  subst hll hll' ho
  refine (sameBytes_any A A' xs ys c c' w.heap.size w h.1 h'.1 (by omega) (by omega)).mono ?_
  rintro e w' ⟨rfl, hd⟩
  exact ⟨rfl, hd.below _ (Nat.le_refl _)⟩
end Go.Proofs.YtcodphddkkjocaaGreatDoor
