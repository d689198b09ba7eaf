/- A table under way, with rows of numbers and keys beside it. -/
import Derived.Test.YtnfodidfhnofkaaAb
namespace Go.Proofs.Ytnfodidfhnofkaa
open Go.RowKit Go.Deep Go.Maps Go.Lib

/-- A table under way, with a row of numbers beside it. -/
structure TX (w0 w : World) (F : Nat → Prop) (tb m : Nat) (st : PS) (base : Nat) (v : Value) (l : List Int) : Prop where
  t : Tb w0 w F tb m st
  row : IntsAt w base v l
theorem TX.still {w0 w w' : World} {F : Nat → Prop} {tb m base : Nat} {st : PS} {v : Value} {l : List Int} (h : TX w0 w F tb m st base v l) (hb : Below w.heap.size w w') : TX w0 w' F tb m st base v l := ⟨h.t.still hb, ints_below h.row hb⟩
theorem ints_addr {w : World} {base N c : Nat} {B : Option Addr} {l : List Int} (h : IntsAt w base (.slice B N c) l) (hl : 0 < l.length) : ∃ b off, B = some ⟨b, off, none⟩ := by
  obtain ⟨B', c', e, hI⟩ := IntsAt.ints h
  simp only [Value.slice.injEq] at e
  obtain ⟨rfl, -, rfl⟩ := e
  obtain ⟨b, off, rfl, _⟩ := hI hl
  exact ⟨b, off, rfl⟩
theorem ints_cell {w : World} {base N c b off : Nat} {l : List Int} (h : IntsAt w base (.slice (some ⟨b, off, none⟩) N c) l) {i : Nat} {t : Int} (ht : l[i]? = some t) : w.cell? ⟨b, off + i, none⟩ = some (.int .i64 t) ∧ b < w.heap.size := by
  have hi := (List.getElem?_eq_some_iff.1 ht).1
  obtain ⟨B', c', e, hI⟩ := IntsAt.ints h
  simp only [Value.slice.injEq] at e
  obtain ⟨rfl, -, rfl⟩ := e
  obtain ⟨b', off', e, hbl, hcl⟩ := hI (by omega)
  simp only [Option.some.injEq, Addr.mk.injEq] at e
  obtain ⟨rfl, rfl, _⟩ := e
  have hcv := hcl i hi
  rw [ht] at hcv
  exact ⟨hcv, hbl⟩
/-- A key's cells. -/
def KeyC (w : World) (kb : Nat) (k : KeyT) : Prop := w.heap[kb]? = some (.cells (kv k).toArray 24 (0, 0))
theorem KeyC.lt {w : World} {kb : Nat} {k : KeyT} (h : KeyC w kb k) : kb < w.heap.size := (Array.getElem?_eq_some_iff.1 h).1
theorem KeyC.still {w w' : World} {kb : Nat} {k : KeyT} (h : KeyC w kb k) (hb : Below w.heap.size w w') : KeyC w' kb k := (hb.block kb h.lt).trans h
theorem KeyC.cells {w : World} {kb : Nat} {k : KeyT} (h : KeyC w kb k) : w.cell? ⟨kb, 0, none⟩ = some (.int .u8 (k.a.val : Int)) ∧ w.cell? ⟨kb, 1, none⟩ = some (.int .u8 (k.b.val : Int)) ∧ w.cell? ⟨kb, 2, none⟩ = some (.int .u8 (k.c.val : Int)) ∧ w.cell? ⟨kb, 3, none⟩ = some (.int .u8 (k.d.val : Int)) := by
  have hk : w.heap[kb]? = some (.cells (kv k).toArray 24 (0, 0)) := h
  refine ⟨?_, ?_, ?_, ?_⟩ <;> simp only [World.cell?, hk] <;> rfl
theorem KV_def (k : KeyT) : KV k = .agg #[.int .u8 (k.a.val : Int), .int .u8 (k.b.val : Int), .int .u8 (k.c.val : Int), .int .u8 (k.d.val : Int)] := rfl
end Go.Proofs.Ytnfodidfhnofkaa
