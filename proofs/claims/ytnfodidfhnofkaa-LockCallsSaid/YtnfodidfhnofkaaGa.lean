/- What any stage needs of lists of numbers in memory: a slice reads as a list, lists compared, lists copied. Nothing of one layer. -/
import Derived.Test.YtnfodidfhnofkaaRows
import Derived.WalkKit
import Derived.WalkSpells
import Derived.WalkLawsBesides
import Derived.Deep.QuietTactic
import Derived.BigQuiet
import Derived.Lib.Hide
import Derived.Deep.OwnRows
import Derived.Laws.AppendOwnNone
import Derived.Maps.AppendAt
namespace Go.Proofs.Ytnfodidfhnofkaa
open Go.RowKit Go.Deep

/-- A slice at A holds the numbers zs, each of kind k, in a block below B; nil and empty ones too. -/
def Ints (k : IntKind) (B : Nat) (w : World) (A : Option Addr) (zs : List Int) : Prop :=
  0 < zs.length → ∃ b off, A = some ⟨b, off, none⟩ ∧ b < B ∧ ∀ j, j < zs.length → w.cell? ⟨b, off + j, none⟩ = some (.int k (zs[j]?.getD 0))

theorem Ints.below {k : IntKind} {B B' : Nat} {w w' : World} {A : Option Addr} {zs : List Int} (h : Ints k B w A zs) (hb : Below B' w w') (hB : B ≤ B') : Ints k B w' A zs := fun h0 => by
  obtain ⟨b, off, e, hlt, hc⟩ := h h0
  exact ⟨b, off, e, hlt, fun j hj => (hb.cell (p := ⟨b, off + j, none⟩) (by show b < B'; omega)).trans (hc j hj)⟩
theorem Ints.more {k : IntKind} {B B' : Nat} {w : World} {A : Option Addr} {zs : List Int} (h : Ints k B w A zs) (hB : B ≤ B') : Ints k B' w A zs := fun h0 => by
  obtain ⟨b, off, e, hlt, hc⟩ := h h0
  exact ⟨b, off, e, by omega, hc⟩
theorem Ints.drewN {k : IntKind} {B : Nat} {w : World} {A : Option Addr} {zs : List Int} (h : Ints k B w A zs) (n : Nat) : Ints k B (w.drewN n) A zs := h
theorem Ints.nil {k : IntKind} {B : Nat} {w : World} {A : Option Addr} : Ints k B w A [] := fun h => absurd h (by simp)

theorem Ints.alloc {k : IntKind} {B : Nat} {w : World} {A : Option Addr} {zs : List Int} (h : Ints k B w A zs) (hB : B ≤ w.heap.size) (o : Obj) : Ints k B (w.alloc o) A zs := h.below ((Below.refl _ _).alloc hB o) (Nat.le_refl _)
theorem ints_row {k : IntKind} {t : TypeId} {b n : Nat} {w : World} {f : Nat → Value} (h : w.rowIs b t n f) (zs : List Int) (hl : zs.length = n) (hz : ∀ j, j < n → f j = .int k (zs[j]?.getD 0)) : Ints k w.heap.size w (some ⟨b, 0, none⟩) zs := fun _ =>
  ⟨b, 0, rfl, h.lt, fun j hj => by rw [Nat.zero_add, h.cell (by omega), hz j (by omega)]⟩

theorem Ints.take {k : IntKind} {B : Nat} {w : World} {A : Option Addr} {zs : List Int} (h : Ints k B w A zs) (n : Nat) : Ints k B w A (zs.take n) := fun h0 => by
  have h1 : 0 < zs.length := by rw [List.length_take] at h0; omega
  obtain ⟨b, off, e, hlt, hc⟩ := h h1
  refine ⟨b, off, e, hlt, fun j hj => ?_⟩
  rw [List.length_take] at hj
  rw [hc j (by omega), List.getElem?_take_of_lt (by omega)]

theorem Ints.drop {k : IntKind} {B : Nat} {w : World} {b off : Nat} {zs : List Int} (h : Ints k B w (some ⟨b, off, none⟩) zs) (n : Nat) : Ints k B w (some ⟨b, off + n, none⟩) (zs.drop n) := fun h0 => by
  have h1 : 0 < zs.length := by rw [List.length_drop] at h0; omega
  obtain ⟨b', off', e, hlt, hc⟩ := h h1
  cases e
  refine ⟨b, off + n, rfl, hlt, fun j hj => ?_⟩
  rw [List.length_drop] at hj
  rw [Nat.add_assoc, hc (n + j) (by omega), List.getElem?_drop]
theorem below_more {B : Nat} {w w1 w2 : World} (h : Below B w w1) (k : Below w1.heap.size w1 w2) (hB : B ≤ w.heap.size) : Below B w w2 := h.trans (k.mono (Nat.le_trans hB h.size))
def Gives (f : Nat) (args : Array Value) (v : Value) : Prop := ∀ W : World, Calls Try.prog f args W fun e w' => e = .returned v ∧ W = w'
set_option maxRecDepth 100000 in
theorem info_u8 : (Try.prog.info? 5).map (fun i => (i.zero, i.size, i.bytes)) = some (some (.int .u8 0), 1, 1) := by kernel_rfl

/-! ### Are two lists the same? -/
theorem same_snoc (xs ys : List Int) (k : Nat) (h : xs.take k = ys.take k) (hx : k < xs.length) (hy : k < ys.length) (e : xs[k]?.getD 0 = ys[k]?.getD 0) : xs.take (k + 1) = ys.take (k + 1) := by
  rw [List.take_succ_eq_append_getElem hx, List.take_succ_eq_append_getElem hy, h]
  simp [hx, hy] at e
  rw [e]
theorem same_bad (xs ys : List Int) (k : Nat) (e : xs[k]?.getD 0 ≠ ys[k]?.getD 0) : (xs == ys) = false := by
  simp only [beq_eq_false_iff_ne]
  rintro rfl; exact e rfl

/-- Only the order's tape has moved on. -/
def Dr (w w' : World) : Prop := ∃ n, w' = w.drewN n
theorem Dr.refl (w : World) : Dr w w := ⟨0, rfl⟩
theorem Dr.of {w : World} (n : Nat) : Dr w (w.drewN n) := ⟨n, rfl⟩
theorem Dr.of2 {w : World} (n m : Nat) : Dr w ((w.drewN n).drewN m) := ⟨n + m, by rw [World.drewN_drewN]⟩
theorem Dr.below {w w' : World} (h : Dr w w') (B : Nat) (hB : B ≤ w.heap.size) : Below B w w' := by
  obtain ⟨n, rfl⟩ := h
  exact below_drewN ((Below.refl _ w).mono hB) n

/-- A call that answers a new list of numbers. -/
def GivesInts (k : IntKind) (zs : List Int) (w : World) (e : Ending) (w' : World) : Prop := ∃ A c, e = .returned (.slice A zs.length c) ∧ Ints k w'.heap.size w' A zs ∧ Below w.heap.size w w'

theorem ints_own {k : IntKind} {t : TypeId} {base n : Nat} {w : World} {v : Value} {zs : List Int} (h : w.ownsRow base t 1 v n (zs.map (Value.int k))) : ∃ A c, v = .slice A zs.length c ∧ Ints k w.heap.size w A zs := by
  have hl : zs.length = n := by have := h.1; simpa using this
  rcases h.2 with ⟨rfl, hn⟩ | ⟨g, cap, cur, rfl, _, hh, hnc, _, hsz, htk⟩
  · have : zs = [] := List.eq_nil_of_length_eq_zero (by omega)
    subst this
    exact ⟨none, 0, rfl, Ints.nil⟩
  · subst hl
    refine ⟨some ⟨g, 0, none⟩, cap, rfl, fun _ => ⟨g, 0, rfl, (Array.getElem?_eq_some_iff.1 hh).1, fun j hj => ?_⟩⟩
    have hc := h.cells (g := g) rfl j (.int k (zs[j]?.getD 0)) (by simp [hj])
    rw [Go.WideShapes.add_plain] at hc
    exact hc

end Go.Proofs.Ytnfodidfhnofkaa
