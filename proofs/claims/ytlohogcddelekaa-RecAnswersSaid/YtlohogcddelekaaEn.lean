/- Lists of records in memory: a slice holds records (GoodR), new records of one's own (OwnsR), append onto them, lists compared (SameRecs). -/
import Derived.Test.YtlohogcddelekaaEm
namespace Go.Proofs.Ytlohogcddelekaa
open Go.RowKit Go.Deep
set_option linter.unusedVariables false

/-- A record's cells stand at a place. -/
def RecO (W : World) (b o : Nat) (r : RecD) : Prop := ∀ i v, (recC r)[i]? = some v → W.cell? ⟨b, o + i, none⟩ = some v
theorem RecO.below {W W' : World} {b o B : Nat} {r : RecD} (h : RecO W b o r) (hb : Below B W W') (hB : b < B) : RecO W' b o r := fun i v hv => (hb.cell (p := ⟨b, o + i, none⟩) hB).trans (h i v hv)
def RecsAt (B : Nat) (w : World) (A : Option Addr) (rs : List RecD) : Prop :=
  0 < rs.length → ∃ b off, A = some ⟨b, off, none⟩ ∧ b < B ∧ ∀ j r, rs[j]? = some r → RecO w b (off + j * 11) r
def GoodR (A : Option Addr) (c : Nat) (rs : List RecD) (w : World) : Prop := RecsAt w.heap.size w A rs ∧ rs.length ≤ c ∧ (A = none → c = 0)
theorem GoodR.below {A : Option Addr} {c : Nat} {rs : List RecD} {w w' : World} (h : GoodR A c rs w) (hb : Below w.heap.size w w') : GoodR A c rs w' := by
  refine ⟨fun h0 => ?_, h.2⟩
  obtain ⟨b, off, e, hlt, hc⟩ := h.1 h0
  exact ⟨b, off, e, Nat.lt_of_lt_of_le hlt hb.size, fun j r hr => (hc j r hr).below hb hlt⟩
theorem GoodR.alloc {A : Option Addr} {c : Nat} {rs : List RecD} {w : World} (h : GoodR A c rs w) (o : Obj) : GoodR A c rs (w.alloc o) := h.below ((Below.refl _ _).alloc (Nat.le_refl _) o)
theorem GoodR.drewN {A : Option Addr} {c : Nat} {rs : List RecD} {w : World} (h : GoodR A c rs w) (n : Nat) : GoodR A c rs (w.drewN n) := h.below (below_drewN (Below.refl _ _) n)
theorem GoodR.take {A : Option Addr} {c : Nat} {rs : List RecD} {w : World} (h : GoodR A c rs w) (n : Nat) : GoodR A c (rs.take n) w := by
  refine ⟨fun h0 => ?_, by rw [List.length_take]; have := h.2.1; omega, h.2.2⟩
  have h1 : 0 < rs.length := by rw [List.length_take] at h0; omega
  obtain ⟨b, off, e, hlt, hc⟩ := h.1 h1
  refine ⟨b, off, e, hlt, fun j r hr => hc j r ?_⟩
  rw [List.getElem?_take] at hr
  split at hr
  · exact hr
  · cases hr
/-- The eleven cells of record j. -/
theorem GoodR.cells {A : Option Addr} {c : Nat} {rs : List RecD} {w : World} (h : GoodR A c rs w) (j : Nat) (hj : j < rs.length) : ∃ b off, A = .some ⟨b, off, none⟩ ∧ b < w.heap.size ∧ RecO w b (off + j * 11) rs[j] := by
  obtain ⟨b, off, e, hlt, hc⟩ := h.1 (by omega)
  exact ⟨b, off, e, hlt, hc j rs[j] (List.getElem?_eq_getElem hj)⟩
def OwnsR (B : Nat) (w : World) (v : Value) (rs : List RecD) : Prop := w.ownsRow B 32 11 v rs.length (rs.flatMap recC)
theorem recC_len (r : RecD) : (recC r).length = 11 := rfl
theorem flat_at {α β : Type} (f : α → List β) (s : Nat) : ∀ (xs : List α), (∀ x ∈ xs, (f x).length = s) → ∀ (i : Nat) (x : α), xs[i]? = some x → ∀ j, j < s → (xs.flatMap f)[i * s + j]? = (f x)[j]?
  | [], _, i, x, hx, _, _ => by simp at hx
  | y :: xs, h, 0, x, hx, j, hj => by
    simp at hx; subst hx
    have := h y List.mem_cons_self
    rw [List.flatMap_cons, Nat.zero_mul, Nat.zero_add, List.getElem?_append_left (by omega)]
  | y :: xs, h, i + 1, x, hx, j, hj => by
    have h1 := h y List.mem_cons_self
    have e : (i + 1) * s + j = s + (i * s + j) := by rw [Nat.succ_mul]; omega
    rw [List.flatMap_cons, e, ← h1, List.getElem?_append_right (by omega), Nat.add_sub_cancel_left, h1]
    exact flat_at f s xs (fun z hz => h z (List.mem_cons_of_mem _ hz)) i x (by simpa using hx) j hj
theorem OwnsR.good {B : Nat} {w : World} {v : Value} {rs : List RecD} (h : OwnsR B w v rs) : ∃ A c, v = .slice A rs.length c ∧ GoodR A c rs w := by
  rcases h.2 with ⟨rfl, hn⟩ | ⟨g, cap, cur, rfl, _, hh, hnc, _, hsz, htk⟩
  · have : rs = [] := List.eq_nil_of_length_eq_zero hn
    subst this
    exact ⟨none, 0, rfl, fun h => absurd h (by simp), by simp, fun _ => rfl⟩
  · refine ⟨some ⟨g, 0, none⟩, cap, rfl, fun _ => ⟨g, 0, rfl, (Array.getElem?_eq_some_iff.1 hh).1, fun j r hr i u hu => ?_⟩, hnc, fun e => by cases e⟩
    have hi : i < 11 := by
      rcases Nat.lt_or_ge i 11 with hlt | hge
      · exact hlt
      · rw [List.getElem?_eq_none (by rw [recC_len]; exact hge)] at hu; cases hu
    have hf := flat_at recC 11 rs (fun r _ => recC_len r) j r hr i hi
    have hc := World.ownsRow.cells h (g := g) rfl (j * 11 + i) u (by rw [hf, hu])
    rw [Go.WideShapes.add_plain] at hc
    rw [show 0 + j * 11 + i = 0 + (j * 11 + i) by omega]
    exact hc
theorem OwnsR.below {B : Nat} {w w' : World} {v : Value} {rs : List RecD} (h : OwnsR B w v rs) (hb : Below w.heap.size w w') : OwnsR B w' v rs :=
  World.ownsRow.kept h (row := none) ⟨hb.os, hb.tape, hb.output, hb.size, fun j hj _ => hb.block j hj⟩ (by cases hv : v.ownBlock <;> simp)
theorem OwnsR.base {B B' : Nat} {w : World} {v : Value} {rs : List RecD} (h : OwnsR B w v rs) (hB : B' ≤ B) : OwnsR B' w v rs := by
  refine ⟨h.1, ?_⟩
  rcases h.2 with h | ⟨g, cap, cur, h1, h2, h3⟩
  · exact .inl h
  · exact .inr ⟨g, cap, cur, h1, Nat.le_trans hB h2, h3⟩
theorem ownsR_nil (B : Nat) (w : World) : OwnsR B w (.slice none 0 0) [] := ⟨rfl, .inl ⟨rfl, rfl⟩⟩
theorem info_rec : (Try.prog.info? 32).map (fun i => (i.zero, i.size, i.bytes)) = some (some (.agg (recA zeroR)), 11, 56) := by kernel_rfl
theorem recC_one (r : RecD) : ∀ u ∈ recC r, u.oneCell' = true := by
  intro u hu
  simp only [recC, List.mem_cons, List.not_mem_nil, or_false] at hu
  rcases hu with rfl | rfl | rfl | rfl | rfl | rfl | rfl | rfl | rfl | rfl | rfl <;> rfl
/-- A record appended to records of one's own. -/
theorem wpList_appendR {ops : Array Oper} {rest : List Oper} {o : Oper} {a : Act} {Q : Exit → Act → World → Prop} {W : World} (hgd : o.guard = none) (s x : Operand) (ho : o.op = .call { callee := .builtin .append, args := #[s, x], argTypes := #[22, 22] })
    (base : Nat) (v : Value) (rs : List RecD) (hs : a.eval s = v) (hown : OwnsR base W v rs) (r : RecD) (b c : Nat) (hx : a.eval x = .slice (some ⟨b, 0, none⟩) 1 c) (hb : RecO W b 0 r) (hl : rs.length ≤ 2000) (hbase : base ≤ W.heap.size) (w0 : World) (hbel : Below base w0 W)
    (h : ∀ v' w', OwnsR base w' v' (rs ++ [r]) → Below base w0 w' → wpList Try.prog ops Q rest (a.put o.dst v') w') : wpList Try.prog ops Q (o :: rest) a W := by
  obtain ⟨i0, hi, hz0, hz1, hz2⟩ := info_parts info_rec
  refine wpList_append_own W hgd s x 22 ho base 32 i0 _ 11 56 Try.underlying22 hi hz0 hz1 hz2 rfl (by decide) v rs.length _ hs hown ⟨b, 0, none⟩ 1 c (recC r) hx rfl (fun j u hu => ?_) (recC_one r) (by simp only [maxLen]; omega) (by omega) hbase (fun v' w' hown' hgrow _ => h v' w' ?_ (hbel.grown hgrow hbase (fun k e => (World.ownsRow.lt hown k e).1)))
  · rw [Go.WideShapes.add_plain]
    exact hb j u hu
  · unfold OwnsR
    rw [List.length_append, List.flatMap_append]
    simpa using hown'
theorem recO_new (w : World) (r : RecD) : RecO (w.alloc (.cells (recA r) 32)) w.heap.size 0 r := by
  intro i v hv
  rw [Nat.zero_add, cell_of_row _ w.heap.size i _ 32 (0, 0) (heap_alloc_new w _)]
  simpa [recA, recC] using hv
end Go.Proofs.Ytlohogcddelekaa
