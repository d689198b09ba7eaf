/- What any stage needs of lists of numbers in memory: a slice reads as a list, lists compared, lists copied. Nothing of one layer. Bytes in memory, for any stage: Good (a slice holds bytes), Owns (new bytes of one's own), append onto them, CopyBytes, SameBytes. The general part of Sb: never import both. Plain arithmetic of layer 1's numbers: cutting to so many bits, turning, counting bits. Nothing of the program. Plain arithmetic: adding the bits of a word by parts (as package math/bits does) counts them; the lowest bit. Nothing of the program. Layer 1 for the stages above it: Zig, Zag, mask. Layer 1 for the stages above it: are widths right? Layer 1 for the stages above it: the walks of the calls that make lists: a word's bytes, a word's numbers. Layer 1 for the stages above it: slices.Backward: what its iterator hands over, for every list of numbers and every loop body that keeps what lay before. Layer 1 for the stages above it: word.From: the word of bytes, for every list of bytes. A region that draws its order, whose last operations alone write, in a round of a range over a function, at the fence that asks nothing: one walk in the order of the text serves every order. Nothing of the program. Layer 1 for the stages above it: word.Pack: numbers in one word, for every two lists of numbers. Layer 1 for the stages above it: word.Pack at every two lists; the numbers that the document fixes ('alive'). Layer 1 for the stages above it: lists of bytes of a word, numbers packed and unpacked, what Bytes, From, Pack and Unpack answer as lists. Records as plain data (RecD), and as the model has them; how two of them are compared. rec.Right: is a record right? For every record. A record's bytes as plain mathematics: how many bytes a number has; math/bits.Len64 in bytes. A record's bytes (encL), and the parts of rec.Encode: widths, words as bytes, a value's bytes. rec.valsBytes: two values' flags and bytes. rec.Encode: a record's bytes, for every record. Records read from bytes, as plain mathematics: a right record's bytes give that one; no record's bytes begin with another one's; what Decode and All are to answer. What Decode, All and Join are to answer, as plain mathematics; records come back from their bytes, cut anywhere. bytes.Equal, over Gc (for any stage): the part of Sl that needs nothing of layer 2: never import both. bytes.HasPrefix; numbers of the first bytes (rec.unpacked); a value of bytes (rec.readVal). rec.readVal: a value, and the bytes behind its own. rec.readVals: two values of 17 bytes. -/
import Derived.Test.YtdmkkfpbgpijjaaRows
import Derived.WalkKit
import Derived.WalkSpells
import Derived.WalkLawsBesides
import Derived.Deep.QuietTactic
import Derived.BigQuiet
import Derived.Lib.Hide
import Derived.Deep.OwnRows
import Derived.Laws.AppendOwnNone
import Derived.Maps.AppendAt
import Derived.Laws.OwnMore
import Derived.Laws.Bits64b
import Derived.Laws.BitsLemmas
import Derived.Lib.TrailingZeros
import Derived.RowKit
import Derived.RangeFuncNested
import Derived.RangeFuncBound
import Derived.RangeFuncCalls
import Derived.RangeFuncLeaves
import Derived.RangeFuncBox
import Derived.Shelf.Abstract
import Derived.Shelf.RegionOpen
import Derived.OwnWalkIn
import Derived.TacticsInMore
import Derived.LoopNIn
import Derived.LoopIn
import Derived.OrdersIn
import Derived.StillTailTactics
import Derived.TacticsIn
import Derived.Laws.StructEq
import Derived.Lib.Tables
import Derived.Deep.RegionHeld3
import Derived.Lib.SliceRun
import Derived.Lib.Bytes
import Derived.Laws.BytesArg
namespace Go.Proofs.Ytdmkkfpbgpijjaa
open Go.RowKit Go.Deep

/-- A slice at A holds the numbers zs, each of kind k, in a block below B; nil and empty ones too. -/
def Ints (k : IntKind) (B : Nat) (w : World) (A : Option Addr) (zs : List Int) : Prop :=
  0 < zs.length → ∃ b off, A = some ⟨b, off, none⟩ ∧ b < B ∧ ∀ j, j < zs.length → w.cell? ⟨b, off + j, none⟩ = some (.int k (zs[j]?.getD 0))

theorem Ints.below {k : IntKind} {B B' : Nat} {w w' : World} {A : Option Addr} {zs : List Int} (h : Ints k B w A zs) (hb : Below B' w w') (hB : B ≤ B') : Ints k B w' A zs := fun h0 => by
  obtain ⟨b, off, e, hlt, hc⟩ := h h0
  exact ⟨b, off, e, hlt, fun j hj => (hb.cell (p := ⟨b, off + j, none⟩) (by show b < B'; omega)).trans (hc j hj)⟩
theorem Ints.more {k : IntKind} {B B' : Nat} {w : World} {A : Option Addr} {zs : List Int} (h : Ints k B w A zs) (hB : B ≤ B') : Ints k B' w A zs := fun h0 => by
  obtain ⟨b, off, e, hlt, hc⟩ := h h0
  exact ⟨b, off, e, by omega, hc⟩
theorem Ints.drewN {k : IntKind} {B : Nat} {w : World} {A : Option Addr} {zs : List Int} (h : Ints k B w A zs) (n : Nat) : Ints k B (w.drewN n) A zs := h
theorem Ints.nil {k : IntKind} {B : Nat} {w : World} {A : Option Addr} : Ints k B w A [] := fun h => absurd h (by simp)

theorem Ints.alloc {k : IntKind} {B : Nat} {w : World} {A : Option Addr} {zs : List Int} (h : Ints k B w A zs) (hB : B ≤ w.heap.size) (o : Obj) : Ints k B (w.alloc o) A zs := h.below ((Below.refl _ _).alloc hB o) (Nat.le_refl _)
theorem ints_row {k : IntKind} {t : TypeId} {b n : Nat} {w : World} {f : Nat → Value} (h : w.rowIs b t n f) (zs : List Int) (hl : zs.length = n) (hz : ∀ j, j < n → f j = .int k (zs[j]?.getD 0)) : Ints k w.heap.size w (some ⟨b, 0, none⟩) zs := fun _ =>
  ⟨b, 0, rfl, h.lt, fun j hj => by rw [Nat.zero_add, h.cell (by omega), hz j (by omega)]⟩

theorem Ints.take {k : IntKind} {B : Nat} {w : World} {A : Option Addr} {zs : List Int} (h : Ints k B w A zs) (n : Nat) : Ints k B w A (zs.take n) := fun h0 => by
  have h1 : 0 < zs.length := by rw [List.length_take] at h0; omega
  obtain ⟨b, off, e, hlt, hc⟩ := h h1
  refine ⟨b, off, e, hlt, fun j hj => ?_⟩
  rw [List.length_take] at hj
  rw [hc j (by omega), List.getElem?_take_of_lt (by omega)]

theorem Ints.drop {k : IntKind} {B : Nat} {w : World} {b off : Nat} {zs : List Int} (h : Ints k B w (some ⟨b, off, none⟩) zs) (n : Nat) : Ints k B w (some ⟨b, off + n, none⟩) (zs.drop n) := fun h0 => by
  have h1 : 0 < zs.length := by rw [List.length_drop] at h0; omega
  obtain ⟨b', off', e, hlt, hc⟩ := h h1
  cases e
  refine ⟨b, off + n, rfl, hlt, fun j hj => ?_⟩
  rw [List.length_drop] at hj
  rw [Nat.add_assoc, hc (n + j) (by omega), List.getElem?_drop]
theorem below_more {B : Nat} {w w1 w2 : World} (h : Below B w w1) (k : Below w1.heap.size w1 w2) (hB : B ≤ w.heap.size) : Below B w w2 := h.trans (k.mono (Nat.le_trans hB h.size))
def Gives (f : Nat) (args : Array Value) (v : Value) : Prop := ∀ W : World, Calls Try.prog f args W fun e w' => e = .returned v ∧ W = w'
set_option maxRecDepth 100000 in
theorem info_u8 : (Try.prog.info? 5).map (fun i => (i.zero, i.size, i.bytes)) = some (some (.int .u8 0), 1, 1) := by kernel_rfl

/-! ### Are two lists the same? -/
theorem same_snoc (xs ys : List Int) (k : Nat) (h : xs.take k = ys.take k) (hx : k < xs.length) (hy : k < ys.length) (e : xs[k]?.getD 0 = ys[k]?.getD 0) : xs.take (k + 1) = ys.take (k + 1) := by
  rw [List.take_succ_eq_append_getElem hx, List.take_succ_eq_append_getElem hy, h]
  simp [hx, hy] at e
  rw [e]
theorem same_bad (xs ys : List Int) (k : Nat) (e : xs[k]?.getD 0 ≠ ys[k]?.getD 0) : (xs == ys) = false := by
  simp only [beq_eq_false_iff_ne]
  rintro rfl; exact e rfl

/-- Only the order's tape has moved on. -/
def Dr (w w' : World) : Prop := ∃ n, w' = w.drewN n
theorem Dr.refl (w : World) : Dr w w := ⟨0, rfl⟩
theorem Dr.of {w : World} (n : Nat) : Dr w (w.drewN n) := ⟨n, rfl⟩
theorem Dr.of2 {w : World} (n m : Nat) : Dr w ((w.drewN n).drewN m) := ⟨n + m, by rw [World.drewN_drewN]⟩
theorem Dr.below {w w' : World} (h : Dr w w') (B : Nat) (hB : B ≤ w.heap.size) : Below B w w' := by
  obtain ⟨n, rfl⟩ := h
  exact below_drewN ((Below.refl _ w).mono hB) n

/-- A call that answers a new list of numbers. -/
def GivesInts (k : IntKind) (zs : List Int) (w : World) (e : Ending) (w' : World) : Prop := ∃ A c, e = .returned (.slice A zs.length c) ∧ Ints k w'.heap.size w' A zs ∧ Below w.heap.size w w'

theorem ints_own {k : IntKind} {t : TypeId} {base n : Nat} {w : World} {v : Value} {zs : List Int} (h : w.ownsRow base t 1 v n (zs.map (Value.int k))) : ∃ A c, v = .slice A zs.length c ∧ Ints k w.heap.size w A zs := by
  have hl : zs.length = n := by have := h.1; simpa using this
  rcases h.2 with ⟨rfl, hn⟩ | ⟨g, cap, cur, rfl, _, hh, hnc, _, hsz, htk⟩
  · have : zs = [] := List.eq_nil_of_length_eq_zero (by omega)
    subst this
    exact ⟨none, 0, rfl, Ints.nil⟩
  · subst hl
    refine ⟨some ⟨g, 0, none⟩, cap, rfl, fun _ => ⟨g, 0, rfl, (Array.getElem?_eq_some_iff.1 hh).1, fun j hj => ?_⟩⟩
    have hc := h.cells (g := g) rfl j (.int k (zs[j]?.getD 0)) (by simp [hj])
    rw [Go.WideShapes.add_plain] at hc
    exact hc

end Go.Proofs.Ytdmkkfpbgpijjaa
namespace Go.Proofs.Ytdmkkfpbgpijjaa
open Go.RowKit Go.Deep

def isBytes (zs : List Int) : Prop := ∀ z ∈ zs, 0 ≤ z ∧ z < 256
/-- A slice holds the bytes zs. -/
def Good (A : Option Addr) (c : Nat) (zs : List Int) (w : World) : Prop := Ints .u8 w.heap.size w A zs ∧ zs.length ≤ c ∧ (A = none → c = 0)
theorem Good.below {A : Option Addr} {c : Nat} {zs : List Int} {w w' : World} (h : Good A c zs w) (hb : Below w.heap.size w w') : Good A c zs w' := ⟨(h.1.below hb (Nat.le_refl _)).more hb.size, h.2⟩
theorem Good.alloc {A : Option Addr} {c : Nat} {zs : List Int} {w : World} (h : Good A c zs w) (o : Obj) : Good A c zs (w.alloc o) := h.below ((Below.refl _ _).alloc (Nat.le_refl _) o)
theorem Good.drewN {A : Option Addr} {c : Nat} {zs : List Int} {w : World} (h : Good A c zs w) (n : Nat) : Good A c zs (w.drewN n) := h.below (below_drewN (Below.refl _ _) n)
theorem Good.take {A : Option Addr} {c : Nat} {zs : List Int} {w : World} (h : Good A c zs w) (n : Nat) : Good A c (zs.take n) w := ⟨h.1.take n, by rw [List.length_take]; have := h.2.1; omega, h.2.2⟩
theorem Good.nil (w : World) : Good none 0 [] w := ⟨Ints.nil, by simp, fun _ => rfl⟩
theorem Good.drop {b off c : Nat} {zs : List Int} {w : World} (h : Good (some ⟨b, off, none⟩) c zs w) (n : Nat) (hn : n ≤ zs.length) : Good (some ⟨b, off + n, none⟩) (c - n) (zs.drop n) w := ⟨h.1.drop n, by rw [List.length_drop]; have := h.2.1; omega, fun e => by cases e⟩
theorem Good.some {A : Option Addr} {c : Nat} {zs : List Int} {w : World} (h : Good A c zs w) (h0 : 0 < zs.length) : ∃ b off, A = .some ⟨b, off, none⟩ := by
  obtain ⟨b, off, e, _⟩ := h.1 h0; exact ⟨b, off, e⟩

def Owns (B : Nat) (w : World) (v : Value) (zs : List Int) : Prop := w.ownsRow B 5 1 v zs.length (zs.map (Value.int .u8))
theorem Owns.good {B : Nat} {w : World} {v : Value} {zs : List Int} (h : Owns B w v zs) : ∃ A c, v = .slice A zs.length c ∧ Good A c zs w := by
  rcases h.2 with ⟨rfl, hn⟩ | ⟨g, cap, cur, rfl, _, hh, hnc, _, hsz, htk⟩
  · have : zs = [] := List.eq_nil_of_length_eq_zero hn
    subst this
    exact ⟨none, 0, rfl, Good.nil w⟩
  · refine ⟨some ⟨g, 0, none⟩, cap, rfl, fun _ => ⟨g, 0, rfl, (Array.getElem?_eq_some_iff.1 hh).1, fun j hj => ?_⟩, hnc, fun e => by cases e⟩
    have hc := World.ownsRow.cells h (g := g) rfl j (.int .u8 (zs[j]?.getD 0)) (by simp [hj])
    rw [Go.WideShapes.add_plain] at hc
    exact hc
theorem Owns.below {B : Nat} {w w' : World} {v : Value} {zs : List Int} (h : Owns B w v zs) (hb : Below w.heap.size w w') : Owns B w' v zs :=
  World.ownsRow.kept h (row := none) ⟨hb.os, hb.tape, hb.output, hb.size, fun j hj _ => hb.block j hj⟩ (by cases hv : v.ownBlock <;> simp)

/-- A call that answers new bytes, which no one else has. -/
def GivesB (zs : List Int) (w : World) (e : Ending) (w' : World) : Prop := ∃ v, e = .returned v ∧ Owns w.heap.size w' v zs ∧ Below w.heap.size w w'

/-! ### Bytes appended to bytes of one's own -/
theorem cells_of_good {A : Option Addr} {ad : Addr} {c : Nat} {ts : List Int} {W : World} (e : A = some ad) (g : Good A c ts W) : ∀ (j : Nat) (u : Value), (ts.map (Value.int .u8))[j]? = some u → W.cell? (ad.add j) = some u := by
  intro j u hu
  have hj : j < ts.length := by
    rcases Nat.lt_or_ge j ts.length with hlt | hge
    · exact hlt
    · rw [List.getElem?_eq_none (by simpa using hge)] at hu; cases hu
  obtain ⟨b, off, e2, hb, hcell⟩ := g.1 (by omega)
  rw [e] at e2
  obtain rfl : ad = ⟨b, off, none⟩ := by injection e2
  rw [Go.WideShapes.add_plain, hcell j hj]
  simpa [hj] using hu
theorem one_u8 (ts : List Int) : ∀ u ∈ ts.map (Value.int .u8), u.oneCell' = true := by
  intro u hu
  simp only [List.mem_map] at hu
  obtain ⟨z, _, rfl⟩ := hu
  rfl
theorem Good.none_nil {c : Nat} {ts : List Int} {W : World} (g : Good none c ts W) : ts = [] ∧ c = 0 := by
  refine ⟨?_, g.2.2 rfl⟩
  rcases Nat.eq_zero_or_pos ts.length with h0 | h0
  · exact List.eq_nil_of_length_eq_zero h0
  · obtain ⟨b, off, e, _⟩ := g.1 h0; cases e
theorem wpList_appendB {ops : Array Oper} {rest : List Oper} {o : Oper} {a : Act} {Q : Exit → Act → World → Prop} {W : World} (hgd : o.guard = none) (s x : Operand) (ho : o.op = .call { callee := .builtin .append, args := #[s, x], argTypes := #[52, 52] })
    (base : Nat) (v : Value) (zs : List Int) (hs : a.eval s = v) (hown : Owns base W v zs) (A' : Option Addr) (ts : List Int) (l' c' : Nat) (hx : a.eval x = .slice A' l' c') (hll : ts.length = l') (g : Good A' c' ts W) (hl : zs.length + ts.length ≤ 10000) (hbase : base ≤ W.heap.size) (w0 : World) (hb : Below base w0 W)
    (h : ∀ v' w', Owns base w' v' (zs ++ ts) → Below base w0 w' → wpList Try.prog ops Q rest (a.put o.dst v') w') : wpList Try.prog ops Q (o :: rest) a W := by
  obtain ⟨i0, hi, hz0, hz1, hz2⟩ := info_parts info_u8
  cases A' with
  | none =>
    obtain ⟨rfl, rfl⟩ := g.none_nil
    obtain rfl : l' = 0 := by simpa using hll.symm
    refine wpList_append_own_none hgd s x 52 ho base 5 i0 1 Try.underlying52 hi v _ _ hs hown hx (h v W ?_ hb)
    rw [List.append_nil]; exact hown
  | some ad =>
    refine wpList_append_own W hgd s x 52 ho base 5 i0 (.int .u8 0) 1 1 Try.underlying52 hi hz0 hz1 hz2 rfl (by decide) v zs.length _ hs hown ad l' c' (ts.map (Value.int .u8)) hx (by simp [hll]) (cells_of_good rfl g) (one_u8 ts) (by simp only [maxLen]; omega) (by omega) hbase (fun v' w' hown' hgrow _ => h v' w' ?_ (hb.grown hgrow hbase (fun k e => (World.ownsRow.lt hown k e).1)))
    unfold Owns
    rw [List.length_append, List.map_append, hll]
    exact hown'

/-- The same of an operation that is guarded, where the guard says yes. -/
theorem wpList_appendW {ops : Array Oper} {rest : List Oper} {o : Oper} {a : Act} {Q : Exit → Act → World → Prop} {W : World} (hw : Region.wanted o (yielded ops a.tmps) = true) (s x : Operand) (ho : o.op = .call { callee := .builtin .append, args := #[s, x], argTypes := #[52, 52] })
    (base : Nat) (v : Value) (zs : List Int) (hs : a.eval s = v) (hown : Owns base W v zs) (A' : Option Addr) (ts : List Int) (l' c' : Nat) (hx : a.eval x = .slice A' l' c') (hll : ts.length = l') (g : Good A' c' ts W) (hl : zs.length + ts.length ≤ 10000) (hbase : base ≤ W.heap.size) (w0 : World) (hb : Below base w0 W)
    (h : ∀ v' w', Owns base w' v' (zs ++ ts) → Below base w0 w' → wpList Try.prog ops Q rest (a.put o.dst v') w') : wpList Try.prog ops Q (o :: rest) a W := by
  obtain ⟨i0, hi, hz0, hz1, hz2⟩ := info_parts info_u8
  refine BigFrame.wpList_want hw fun K hK => ?_
  cases A' with
  | none =>
    obtain ⟨rfl, rfl⟩ := g.none_nil
    obtain rfl : l' = 0 := by simpa using hll.symm
    have hrun := run_append_owned_none (P := Try.prog) (w := W) base 52 o.type 5 i0 1 Try.underlying52 hi v _ _ hown
    unfold Oper.wp
    simp [execOp, ho, resolve, invoke, builtin, hs, hx, hrun, Result.andThen]
    exact hK _ _ (h v W (by rw [List.append_nil]; exact hown) hb)
  | some ad =>
    refine wp_append_own W s x 52 ho base 5 i0 (.int .u8 0) 1 1 Try.underlying52 hi hz0 hz1 hz2 rfl (by decide) v zs.length _ hs hown ad l' c' (ts.map (Value.int .u8)) hx (by simp [hll]) (cells_of_good rfl g) (one_u8 ts) (by simp only [maxLen]; omega) (by omega) hbase (fun v' w' hown' hgrow _ => hK _ _ (h v' w' ?_ (hb.grown hgrow hbase (fun k e => (World.ownsRow.lt hown k e).1))))
    unfold Owns
    rw [List.length_append, List.map_append, hll]
    exact hown'

/-! ### Bytes copied -/
end Go.Proofs.Ytdmkkfpbgpijjaa
namespace Go.Proofs.Ytdmkkfpbgpijjaa
open Go.RowKit

/-! ### Cutting -/
/-- The number of a number's lowest b bits. -/
def cutI (n : Int) (b : Nat) : Int := (n + 2 ^ (b - 1)) % 2 ^ b - 2 ^ (b - 1)

theorem two_split (b : Nat) (h : 1 ≤ b) : (2 : Int) ^ b = 2 * 2 ^ (b - 1) := by
  obtain ⟨k, rfl⟩ : ∃ k, b = k + 1 := ⟨b - 1, by omega⟩
  simp [Int.pow_succ, Int.mul_comm]

theorem two_pos (b : Nat) : (0 : Int) < 2 ^ b := Int.pow_pos (by decide)

theorem cut_bounds (n : Int) (b : Nat) (h : 1 ≤ b) : -2 ^ (b - 1) ≤ cutI n b ∧ cutI n b < 2 ^ (b - 1) := by
  have e := two_split b h
  have p := two_pos (b - 1)
  unfold cutI
  rw [e]
  generalize (2 : Int) ^ (b - 1) = H at *
  have h1 := Int.emod_nonneg (n + H) (show 2 * H ≠ 0 by omega)
  have h2 := Int.emod_lt_of_pos (n + H) (show 0 < 2 * H by omega)
  omega

theorem cut_self (n : Int) (b : Nat) (h : 1 ≤ b) (h1 : -2 ^ (b - 1) ≤ n) (h2 : n < 2 ^ (b - 1)) : cutI n b = n := by
  have e := two_split b h
  unfold cutI
  rw [e]
  generalize (2 : Int) ^ (b - 1) = H at *
  rw [Int.emod_eq_of_lt (by omega) (by omega)]
  omega

theorem cut_cong (n : Int) (b : Nat) : ∃ q : Int, n = cutI n b + 2 ^ b * q := by
  refine ⟨(n + 2 ^ (b - 1)) / 2 ^ b, ?_⟩
  have := Int.emod_add_mul_ediv (n + 2 ^ (b - 1)) (2 ^ b)
  unfold cutI
  omega

theorem cut_of (n m q : Int) (b : Nat) (e : n = m + 2 ^ b * q) : cutI n b = cutI m b := by
  unfold cutI
  rw [e, show m + 2 ^ b * q + 2 ^ (b - 1) = m + 2 ^ (b - 1) + 2 ^ b * q by omega, Int.add_mul_emod_self_left]

theorem cut_fewer (n : Int) (b f : Nat) (h : f ≤ b) : cutI (cutI n b) f = cutI n f := by
  obtain ⟨q, hq⟩ := cut_cong n b
  obtain ⟨d, rfl⟩ : ∃ d, b = f + d := ⟨b - f, by omega⟩
  exact (cut_of n (cutI n (f + d)) (2 ^ d * q) f (by rw [← Int.mul_assoc, ← Int.pow_add]; exact hq)).symm

/-- What shifting up and down comes to. -/
theorem cut_shift (n : Int) (b : Nat) (h : 1 ≤ b) (h2 : b ≤ 64) : wrap64 (n * 2 ^ (64 - b)) / 2 ^ (64 - b) = cutI n b := by
  have e := two_split b h
  have p := two_pos (64 - b)
  have pp := two_pos (b - 1)
  have e64 : (2 : Int) ^ (b - 1) * 2 ^ (64 - b) = 9223372036854775808 := by
    rw [← Int.pow_add, show b - 1 + (64 - b) = 63 by omega]; rfl
  have hw : wrap64 (n * 2 ^ (64 - b)) = cutI n b * 2 ^ (64 - b) := by
    unfold cutI wrap64
    rw [e]
    generalize (2 : Int) ^ (b - 1) = H at *
    generalize (2 : Int) ^ (64 - b) = K at *
    have e1 : n * K + 9223372036854775808 = (n + H) * K := by rw [Int.add_mul, e64]
    have e2 : (18446744073709551616 : Int) = (2 * H) * K := by rw [Int.mul_assoc, e64]; rfl
    rw [e1, e2, Int.mul_comm (n + H) K, Int.mul_comm (2 * H) K, Int.mul_emod_mul_of_pos _ _ p, Int.sub_mul, e64, Int.mul_comm K]
  rw [hw, Int.mul_ediv_cancel _ (by omega)]

/-! ### Zig and Zag -/
def zigI (n : Int) : Int := if n < 0 then -2 * n - 1 else 2 * n
def zagI (u : Nat) : Int := if u % 2 = 1 then -((u / 2 : Nat) : Int) - 1 else ((u / 2 : Nat) : Int)

theorem xor_all (a : Nat) (h : a < 18446744073709551616) : a ^^^ 18446744073709551615 = 18446744073709551615 - a := by
  apply Nat.eq_of_testBit_eq
  intro i
  have e : 18446744073709551615 - a = 2 ^ 64 - (a + 1) := by omega
  have e2 : (18446744073709551615 : Nat) = 2 ^ 64 - (0 + 1) := by decide
  rw [Nat.testBit_xor, e, Nat.testBit_two_pow_sub_succ (by omega)]
  conv => lhs; rw [e2, Nat.testBit_two_pow_sub_succ (by decide)]
  by_cases hi : i < 64
  · simp [hi]
  · have : a.testBit i = false := Nat.testBit_lt_two_pow (Nat.lt_of_lt_of_le h (by
      have : 2 ^ 64 ≤ 2 ^ i := Nat.pow_le_pow_right (by decide) (by omega)
      omega))
    simp [hi, this]

theorem xor_none (a : Nat) : a ^^^ 0 = a := Nat.xor_zero a

theorem bits_xor_i64 (a b : Int) : bits .xor .i64 a b = IntKind.i64.wrap (((BitVec.ofInt 64 a) ^^^ (BitVec.ofInt 64 b)).toNat : Int) := rfl

theorem xor_m1_i64 (a : Int) (h0 : 0 ≤ a) (h : a < 9223372036854775808) : bits .xor .i64 a (-1) = -a - 1 := by
  rw [bits_xor_i64]
  have h1 : (BitVec.ofInt 64 a).toNat = a.toNat := by
    rw [BitVec.toNat_ofInt]; omega
  have h2 : (BitVec.ofInt 64 (-1)).toNat = 18446744073709551615 := by decide
  rw [BitVec.toNat_xor, h1, h2, xor_all _ (by omega), IntKind.wrap_i64]
  omega

theorem xor_0_i64 (a : Int) (h0 : 0 ≤ a) (h : a < 9223372036854775808) : bits .xor .i64 a 0 = a := by
  rw [bits_xor_i64]
  have h1 : (BitVec.ofInt 64 a).toNat = a.toNat := by
    rw [BitVec.toNat_ofInt]; omega
  have h2 : (BitVec.ofInt 64 0).toNat = 0 := by decide
  rw [BitVec.toNat_xor, h1, h2, Nat.xor_zero, IntKind.wrap_i64]
  omega

theorem zig_walk (n : Int) (h1 : -9223372036854775808 ≤ n) (h2 : n < 9223372036854775808) :
    bits .xor .u64 (IntKind.u64.wrap (wrap64 (n * 2))) (IntKind.u64.wrap (n / 9223372036854775808)) = zigI n := by
  unfold zigI
  have ea : IntKind.u64.wrap (wrap64 (n * 2)) = (((n * 2) % 18446744073709551616).toNat : Int) := by
    rw [IntKind.wrap_u64]; unfold wrap64; omega
  rw [ea]
  by_cases hn : n < 0
  · have eb : IntKind.u64.wrap (n / 9223372036854775808) = ((18446744073709551615 : Nat) : Int) := by
      rw [IntKind.wrap_u64]; omega
    rw [eb, bits_xor_u64_nat _ _ (by omega) (by omega), xor_all _ (by omega), if_pos hn]
    omega
  · have eb : IntKind.u64.wrap (n / 9223372036854775808) = ((0 : Nat) : Int) := by
      rw [IntKind.wrap_u64]; omega
    rw [eb, bits_xor_u64_nat _ _ (by omega) (by omega), Nat.xor_zero, if_neg hn]
    omega

theorem and_one (u : Nat) (h : u < 18446744073709551616) : bits .and .u64 (u : Int) 1 = ((u % 2 : Nat) : Int) := by
  have := bits_and_u64_nat u 1 h (by decide)
  rw [show ((1 : Nat) : Int) = 1 from rfl] at this
  rw [this, Nat.and_one_is_mod]

theorem zag_walk (u : Nat) (h : u < 18446744073709551616) :
    bits .xor .i64 ((u : Int) / 2) (wrap64 (-wrap64 (bits .and .u64 (u : Int) 1))) = zagI u := by
  rw [and_one u h]
  unfold zagI
  by_cases hu : u % 2 = 1
  · rw [if_pos hu, hu, show wrap64 (-wrap64 ((1 : Nat) : Int)) = -1 by decide +kernel, xor_m1_i64 _ (by omega) (by omega)]
    omega
  · rw [if_neg hu, show u % 2 = 0 by omega, show wrap64 (-wrap64 ((0 : Nat) : Int)) = 0 by decide +kernel, xor_0_i64 _ (by omega) (by omega)]
    omega

theorem zag_zig (n : Int) : zagI (zigI n).toNat = n := by
  unfold zigI zagI
  by_cases h : n < 0
  · rw [if_pos h, if_pos (by omega)]; omega
  · rw [if_neg h, if_neg (by omega)]; omega

theorem zig_zag (u : Nat) : zigI (zagI u) = u := by
  unfold zigI zagI
  by_cases h : u % 2 = 1
  · rw [if_pos h, if_pos (by omega)]; omega
  · rw [if_neg h, if_neg (by omega)]; omega

/-! ### Counting bits -/
def pc (n : Nat) : Nat := if h : n = 0 then 0 else n % 2 + pc (n / 2)
termination_by n
decreasing_by omega

theorem pc_zero : pc 0 = 0 := by unfold pc; simp
theorem pc_step (n : Nat) : pc n = n % 2 + pc (n / 2) := by
  by_cases h : n = 0
  · subst h; simp [pc_zero]
  · conv => lhs; unfold pc
    rw [dif_neg h]
theorem pc_two (t m : Nat) (h : t < 2) : pc (2 * m + t) = t + pc m := by
  rw [pc_step, show (2 * m + t) % 2 = t by omega, show (2 * m + t) / 2 = m by omega]
/-- Bits are counted by parts. -/
theorem pc_parts (k : Nat) : ∀ a b : Nat, b < 2 ^ k → pc (a * 2 ^ k + b) = pc a + pc b := by
  induction k with
  | zero => intro a b h; have : b = 0 := by simpa using h
            subst this; simp [pc_zero]
  | succ k ih =>
    intro a b h
    rw [Nat.pow_succ] at h
    have e : a * 2 ^ (k + 1) + b = 2 * (a * 2 ^ k + b / 2) + b % 2 := by
      rw [Nat.pow_succ]
      have : a * (2 ^ k * 2) = 2 * (a * 2 ^ k) := by rw [← Nat.mul_assoc, Nat.mul_comm]
      omega
    rw [e, pc_two _ _ (by omega), ih _ _ (by omega), pc_step b]
    omega
theorem pc_le (k : Nat) : ∀ n, n < 2 ^ k → pc n ≤ k := by
  induction k with
  | zero => intro n h; have : n = 0 := by simpa using h
            subst this; simp [pc_zero]
  | succ k ih => intro n h; rw [Nat.pow_succ] at h; rw [pc_step]; have := ih (n / 2) (by omega); omega

/-! ### Turning bits -/
/-- Turned by one place. -/
def rot1 (u : Nat) : Nat := 2 * (u % 9223372036854775808) + u / 9223372036854775808
def rotK (u : Nat) : Nat → Nat
  | 0 => u
  | k + 1 => rot1 (rotK u k)
theorem rot1_lt (u : Nat) (h : u < 18446744073709551616) : rot1 u < 18446744073709551616 := by unfold rot1; omega
theorem rotK_lt (u k : Nat) (h : u < 18446744073709551616) : rotK u k < 18446744073709551616 := by
  induction k with
  | zero => exact h
  | succ k ih => exact rot1_lt _ ih
theorem rotK_add (u a b : Nat) : rotK (rotK u a) b = rotK u (a + b) := by
  induction b with
  | zero => rfl
  | succ b ih => show rot1 _ = rot1 (rotK u (a + b)); rw [ih]
theorem pc_rot1 (u : Nat) (h : u < 18446744073709551616) : pc (rot1 u) = pc u := by
  unfold rot1
  rw [pc_two _ _ (by omega)]
  have := pc_parts 63 (u / 9223372036854775808) (u % 9223372036854775808) (by omega)
  rw [show u / 9223372036854775808 * 2 ^ 63 + u % 9223372036854775808 = u by omega] at this
  rw [this]
  have : u / 9223372036854775808 = 0 ∨ u / 9223372036854775808 = 1 := by omega
  rcases this with h | h <;> rw [h]
  · simp [pc_zero]
  · rw [show pc 1 = 1 by rw [pc_step]; simp [pc_zero]]
theorem pc_rotK (u k : Nat) (h : u < 18446744073709551616) : pc (rotK u k) = pc u := by
  induction k with
  | zero => rfl
  | succ k ih => show pc (rot1 _) = _; rw [pc_rot1 _ (rotK_lt u k h), ih]

theorem pow_split (s : Nat) (h : s ≤ 64) : 2 ^ s * 2 ^ (64 - s) = (18446744073709551616 : Nat) := by
  rw [← Nat.pow_add, show s + (64 - s) = 64 by omega]

/-- Turned by s places: the lower bits go up, the upper ones come down. -/
theorem rotK_eq (u : Nat) (h : u < 18446744073709551616) : ∀ s, s ≤ 64 → rotK u s = u % 2 ^ (64 - s) * 2 ^ s + u / 2 ^ (64 - s) := by
  intro s
  induction s with
  | zero => intro _; show u = _; rw [show 2 ^ (64 - 0) = (18446744073709551616 : Nat) by decide]; omega
  | succ s ih =>
    intro hs
    show rot1 (rotK u s) = _
    rw [ih (by omega)]
    have e1 : 2 ^ (64 - s) = 2 * 2 ^ (64 - (s + 1)) := by rw [show 64 - s = (64 - (s + 1)) + 1 by omega, Nat.pow_succ, Nat.mul_comm]
    have e2 : 2 ^ s * 2 ^ (64 - (s + 1)) = 9223372036854775808 := by rw [← Nat.pow_add, show s + (64 - (s + 1)) = 63 by omega]
    have e3 : 2 ^ (s + 1) = 2 * 2 ^ s := by rw [Nat.pow_succ, Nat.mul_comm]
    have p : 0 < 2 ^ (64 - (s + 1)) := Nat.two_pow_pos _
    rw [e1, e3]
    generalize 2 ^ (64 - (s + 1)) = K at *
    generalize 2 ^ s = S at *
    -- u = h (2 K) + t K + l
    have hd : u / (2 * K) = u / K / 2 := by rw [Nat.mul_comm, Nat.div_div_eq_div_mul]
    have hm : u % (2 * K) = u / K % 2 * K + u % K := by
      rw [Nat.mul_comm 2 K, Nat.mod_mul, Nat.mul_comm K]; omega
    have hq : u / K < 2 * S := by
      rw [Nat.div_lt_iff_lt_mul p, Nat.mul_assoc, e2]; omega
    have hl : u % K < K := Nat.mod_lt _ p
    have hl2 : u % K * S + S ≤ 9223372036854775808 := by
      have : (u % K + 1) * S ≤ K * S := Nat.mul_le_mul_right _ hl
      rw [Nat.mul_comm K S, e2, Nat.add_mul] at this; omega
    have hk : u / K % 2 * K * S = u / K % 2 * 9223372036854775808 := by
      rw [Nat.mul_assoc, Nat.mul_comm K S, e2]
    rw [hd, hm, Nat.add_mul, hk]
    unfold rot1
    have ex : u % K * (2 * S) = 2 * (u % K * S) := by rw [← Nat.mul_assoc, Nat.mul_comm _ 2, Nat.mul_assoc]
    rw [ex]
    generalize u % K * S = L at *
    generalize u / K = q at *
    have : q % 2 = 0 ∨ q % 2 = 1 := by omega
    rcases this with h2 | h2 <;> rw [h2] <;> omega

theorem rotK_64 (u : Nat) (h : u < 18446744073709551616) : rotK u 64 = u := by
  rw [rotK_eq u h 64 (by omega)]; simp [Nat.mod_one]

theorem rotK_mod (u k : Nat) (h : u < 18446744073709551616) : rotK u (k % 64) = rotK u k := by
  have : ∀ q, rotK u (64 * q) = u := by
    intro q
    induction q with
    | zero => rfl
    | succ q ih => rw [Nat.mul_succ, ← rotK_add, ih, rotK_64 u h]
  have e := rotK_add u (64 * (k / 64)) (k % 64)
  rw [this, show 64 * (k / 64) + k % 64 = k by omega] at e
  exact e

/-- Turned by a number of places, of whatever sign. -/
def turnI (u : Nat) (k : Int) : Nat := rotK u (k % 64).toNat

end Go.Proofs.Ytdmkkfpbgpijjaa
namespace Go.Proofs.Ytdmkkfpbgpijjaa
open Go.RowKit

theorem and_split (a b c d : Nat) (ha : a < 256) (hc : c < 256) : (a + 256 * b) &&& (c + 256 * d) = (a &&& c) + 256 * (b &&& d) := by
  have h1 := Nat.and_div_two_pow (a := a + 256 * b) (b := c + 256 * d) (n := 8)
  have h2 := Nat.and_mod_two_pow (a := a + 256 * b) (b := c + 256 * d) (n := 8)
  rw [show (2 : Nat) ^ 8 = 256 from rfl] at h1 h2
  rw [show (a + 256 * b) / 256 = b by omega, show (c + 256 * d) / 256 = d by omega] at h1
  rw [show (a + 256 * b) % 256 = a by omega, show (c + 256 * d) % 256 = c by omega] at h2
  have h3 := Nat.mod_add_div ((a + 256 * b) &&& (c + 256 * d)) 256
  rw [h1, h2] at h3
  exact h3.symm

/-- k bytes, each the same. -/
def rep (m : Nat) : Nat → Nat
  | 0 => 0
  | k + 1 => m + 256 * rep m k

theorem rep_succ (m k : Nat) : rep m (k + 1) = m + 256 * rep m k := rfl

def o1 (k u : Nat) : Nat := (u / 2 &&& rep 0x55 k) + (u &&& rep 0x55 k)
def o2 (k u : Nat) : Nat := (o1 k u / 4 &&& rep 0x33 k) + (o1 k u &&& rep 0x33 k)
def o3 (k u : Nat) : Nat := (o2 k u / 16 + o2 k u) &&& rep 0x0f k
def b1 (c : Nat) : Nat := (c / 2 &&& 0x55) + (c &&& 0x55)
def b2 (c : Nat) : Nat := (b1 c / 4 &&& 0x33) + (b1 c &&& 0x33)

theorem b1_up : ∀ t, t < 2 → ∀ c, c < 256 → (c / 2 + 128 * t) &&& 0x55 = c / 2 &&& 0x55 := by decide +kernel
theorem b1_lt : ∀ c, c < 256 → b1 c < 256 := by decide +kernel
theorem b2_up : ∀ t, t < 4 → ∀ c, c < 256 → (c / 4 + 64 * t) &&& 0x33 = c / 4 &&& 0x33 := by decide +kernel
theorem b2_lt : ∀ c, c < 256 → b2 c ≤ 68 ∧ b2 c % 16 ≤ 4 := by decide +kernel
theorem b3_up : ∀ t, t < 5 → ∀ c, c < 69 → (c / 16 + c + 16 * t) &&& 0x0f = (c / 16 + c) &&& 0x0f := by decide +kernel
/-- The sum of a byte's bits. -/
def c8 (c : Nat) : Nat := c % 2 + c / 2 % 2 + c / 4 % 2 + c / 8 % 2 + c / 16 % 2 + c / 32 % 2 + c / 64 % 2 + c / 128 % 2
theorem b3_is : ∀ c, c < 256 → (b2 c / 16 + b2 c) &&& 0x0f = c8 c := by decide +kernel
theorem c8_pc (c : Nat) (h : c < 256) : c8 c = pc c := by
  unfold c8
  rw [pc_step c, pc_step (c / 2), pc_step (c / 2 / 2), pc_step (c / 2 / 2 / 2), pc_step (c / 2 / 2 / 2 / 2), pc_step (c / 2 / 2 / 2 / 2 / 2), pc_step (c / 2 / 2 / 2 / 2 / 2 / 2), pc_step (c / 2 / 2 / 2 / 2 / 2 / 2 / 2)]
  rw [show c / 2 / 2 / 2 / 2 / 2 / 2 / 2 / 2 = 0 by omega, pc_zero]
  omega

theorem o1_step (k c v : Nat) (hc : c < 256) : o1 (k + 1) (c + 256 * v) = b1 c + 256 * o1 k v := by
  unfold o1 b1
  rw [rep_succ]
  have e : (c + 256 * v) / 2 = (c / 2 + 128 * (v % 2)) + 256 * (v / 2) := by omega
  rw [e, and_split _ _ _ _ (by omega) (by decide), and_split _ _ _ _ hc (by decide), b1_up _ (by omega) c hc]
  omega
theorem o2_step (k c v : Nat) (hc : c < 256) : o2 (k + 1) (c + 256 * v) = b2 c + 256 * o2 k v := by
  unfold o2
  rw [o1_step k c v hc]
  unfold b2
  rw [rep_succ]
  have hb := b1_lt c hc
  generalize b1 c = d at *
  generalize o1 k v = w at *
  have e : (d + 256 * w) / 4 = (d / 4 + 64 * (w % 4)) + 256 * (w / 4) := by omega
  rw [e, and_split _ _ _ _ (by omega) (by decide), and_split _ _ _ _ hb (by decide), b2_up _ (by omega) d hb]
  omega
theorem o2_low (k v : Nat) : v < 256 ^ k → o2 k v % 16 ≤ 4 := by
  cases k with
  | zero => intro h; have : v = 0 := by simpa using h
            subst this; decide
  | succ k =>
    intro _
    have e := o2_step k (v % 256) (v / 256) (by omega)
    rw [show v % 256 + 256 * (v / 256) = v by omega] at e
    have := (b2_lt (v % 256) (by omega)).2
    rw [e]; omega
theorem o3_step (k c v : Nat) (hc : c < 256) (hv : v < 256 ^ k) : o3 (k + 1) (c + 256 * v) = pc c + 256 * o3 k v := by
  unfold o3
  rw [o2_step k c v hc, ← c8_pc c hc, ← b3_is c hc]
  have hl := o2_low k v hv
  have hb := (b2_lt c hc).1
  rw [rep_succ]
  generalize b2 c = d at *
  generalize o2 k v = w at *
  have e : (d + 256 * w) / 16 + (d + 256 * w) = (d / 16 + d + 16 * (w % 16)) + 256 * (w / 16 + w) := by omega
  rw [e, and_split _ _ _ _ (by omega) (by decide), b3_up _ (by omega) d (by omega)]

/-- All eight bytes. -/
theorem o3_all (u : Nat) (h : u < 18446744073709551616) : ∃ g0 g1 g2 g3 g4 g5 g6 g7 : Nat, g0 ≤ 8 ∧ g1 ≤ 8 ∧ g2 ≤ 8 ∧ g3 ≤ 8 ∧ g4 ≤ 8 ∧ g5 ≤ 8 ∧ g6 ≤ 8 ∧ g7 ≤ 8 ∧
    pc u = g0 + g1 + g2 + g3 + g4 + g5 + g6 + g7 ∧
    o3 8 u = g0 + 256 * (g1 + 256 * (g2 + 256 * (g3 + 256 * (g4 + 256 * (g5 + 256 * (g6 + 256 * g7)))))) := by
  have s : ∀ k v, v < 256 ^ (k + 1) → o3 (k + 1) v = pc (v % 256) + 256 * o3 k (v / 256) ∧ pc v = pc (v % 256) + pc (v / 256) := by
    intro k v hv
    rw [Nat.pow_succ] at hv
    have e := o3_step k (v % 256) (v / 256) (by omega) (by omega)
    rw [show v % 256 + 256 * (v / 256) = v by omega] at e
    have p := pc_parts 8 (v / 256) (v % 256) (by omega)
    rw [show v / 256 * 2 ^ 8 + v % 256 = v by omega] at p
    exact ⟨e, by omega⟩
  have z : ∀ v, v < 1 → o3 0 v = 0 ∧ pc v = 0 := by
    intro v hv
    have : v = 0 := by omega
    subst this
    exact ⟨by decide, pc_zero⟩
  have l : ∀ v, pc (v % 256) ≤ 8 := fun v => pc_le 8 _ (by omega)
  have s7 := s 7 u (by omega)
  have s6 := s 6 (u / 256) (by omega)
  have s5 := s 5 (u / 256 / 256) (by omega)
  have s4 := s 4 (u / 256 / 256 / 256) (by omega)
  have s3 := s 3 (u / 256 / 256 / 256 / 256) (by omega)
  have s2 := s 2 (u / 256 / 256 / 256 / 256 / 256) (by omega)
  have s1 := s 1 (u / 256 / 256 / 256 / 256 / 256 / 256) (by omega)
  have s0 := s 0 (u / 256 / 256 / 256 / 256 / 256 / 256 / 256) (by omega)
  have zz := z (u / 256 / 256 / 256 / 256 / 256 / 256 / 256 / 256) (by omega)
  refine ⟨_, _, _, _, _, _, _, _, l u, l (u / 256), l (u / 256 / 256), l (u / 256 / 256 / 256), l (u / 256 / 256 / 256 / 256), l (u / 256 / 256 / 256 / 256 / 256), l (u / 256 / 256 / 256 / 256 / 256 / 256), l (u / 256 / 256 / 256 / 256 / 256 / 256 / 256), ?_, ?_⟩
  · rw [s7.2, s6.2, s5.2, s4.2, s3.2, s2.2, s1.2, s0.2, zz.2]; omega
  · rw [s7.1, s6.1, s5.1, s4.1, s3.1, s2.1, s1.1, s0.1, zz.1, Nat.mul_zero, Nat.add_zero]

def o4 (u : Nat) : Nat := (o3 8 u + o3 8 u / 256) % 18446744073709551616
def o5 (u : Nat) : Nat := (o4 u + o4 u / 65536) % 18446744073709551616
def o6 (u : Nat) : Nat := (o5 u + o5 u / 4294967296) % 18446744073709551616
set_option maxHeartbeats 1600000 in
theorem o6_is (u : Nat) (h : u < 18446744073709551616) : o6 u % 128 = pc u ∧ pc u ≤ 64 := by
  obtain ⟨g0, g1, g2, g3, g4, g5, g6, g7, h0, h1, h2, h3, h4, h5, h6, h7, hp, ho⟩ := o3_all u h
  have q3 : o3 8 u / 256 = g1 + 256 * (g2 + 256 * (g3 + 256 * (g4 + 256 * (g5 + 256 * (g6 + 256 * g7))))) := by omega
  have e4 : o4 u = (g0 + g1) + 256 * (g1 + g2) + 65536 * ((g2 + g3) + 256 * (g3 + g4) + 65536 * ((g4 + g5) + 256 * (g5 + g6) + 65536 * ((g6 + g7) + 256 * g7))) := by
    unfold o4; rw [q3, ho, Nat.mod_eq_of_lt (by omega)]; omega
  clear q3 ho
  have q4 : o4 u / 65536 = (g2 + g3) + 256 * (g3 + g4) + 65536 * ((g4 + g5) + 256 * (g5 + g6) + 65536 * ((g6 + g7) + 256 * g7)) := by omega
  have e5 : o5 u = (g0 + g1 + g2 + g3) + 256 * (g1 + g2 + g3 + g4) + 65536 * ((g2 + g3 + g4 + g5) + 256 * (g3 + g4 + g5 + g6)) + 4294967296 * ((g4 + g5 + g6 + g7) + 256 * (g5 + g6 + g7) + 65536 * (g6 + g7) + 16777216 * g7) := by
    unfold o5; rw [q4, e4, Nat.mod_eq_of_lt (by omega)]; omega
  clear q4 e4
  have q5 : o5 u / 4294967296 = (g4 + g5 + g6 + g7) + 256 * (g5 + g6 + g7) + 65536 * (g6 + g7) + 16777216 * g7 := by omega
  have e6 : ∃ r, o6 u = (g0 + g1 + g2 + g3 + g4 + g5 + g6 + g7) + 128 * r := by
    refine ⟨2 * (g1 + g2 + g3 + g4 + g5 + g6 + g7) + 512 * ((g2 + g3 + g4 + g5 + g6 + g7) + 256 * (g3 + g4 + g5 + g6 + g7)) + 33554432 * ((g4 + g5 + g6 + g7) + 256 * (g5 + g6 + g7) + 65536 * (g6 + g7) + 16777216 * g7), ?_⟩
    unfold o6; rw [q5, e5, Nat.mod_eq_of_lt (by omega)]; omega
  obtain ⟨r, e6⟩ := e6
  rw [e6, hp]
  omega

theorem rep55 : rep 0x55 8 = 6148914691236517205 := by decide
theorem rep33 : rep 0x33 8 = 3689348814741910323 := by decide
theorem rep0f : rep 0x0f 8 = 1085102592571150095 := by decide
theorem o_lt (u : Nat) : o1 8 u < 18446744073709551616 ∧ o2 8 u < 18446744073709551616 ∧ o2 8 u / 16 + o2 8 u < 18446744073709551616 := by
  have a1 : u / 2 &&& 6148914691236517205 ≤ 6148914691236517205 := Nat.and_le_right
  have a2 : u &&& 6148914691236517205 ≤ 6148914691236517205 := Nat.and_le_right
  have a3 : o1 8 u / 4 &&& 3689348814741910323 ≤ 3689348814741910323 := Nat.and_le_right
  have a4 : o1 8 u &&& 3689348814741910323 ≤ 3689348814741910323 := Nat.and_le_right
  have e1 : o1 8 u = (u / 2 &&& 6148914691236517205) + (u &&& 6148914691236517205) := by unfold o1; rw [rep55]
  have e2 : o2 8 u = (o1 8 u / 4 &&& 3689348814741910323) + (o1 8 u &&& 3689348814741910323) := by unfold o2; rw [rep33]
  omega

theorem and_nat (a : Nat) (m : Nat) (x : Int) (mi : Int) (hx : x = (a : Int)) (hm : mi = (m : Int)) (ha : a < 18446744073709551616) (hb : m < 18446744073709551616) : bits .and .u64 x mi = ((a &&& m : Nat) : Int) := by
  rw [hx, hm]; exact bits_and_u64_nat a m ha hb
theorem w1 (u : Nat) (hu : u < 18446744073709551616) : IntKind.u64.wrap (bits BinOp.and IntKind.u64 (↑u / 2) 6148914691236517205 + bits BinOp.and IntKind.u64 (↑u) 6148914691236517205) = ((o1 8 u : Nat) : Int) := by
  have l := (o_lt u).1
  have e : o1 8 u = (u / 2 &&& 6148914691236517205) + (u &&& 6148914691236517205) := by unfold o1; rw [rep55]
  rw [and_nat (u / 2) 6148914691236517205 _ _ (by omega) (by omega) (by omega) (by decide), and_nat u 6148914691236517205 _ _ rfl (by omega) hu (by decide), IntKind.wrap_u64]
  omega
theorem w2 (u : Nat) : IntKind.u64.wrap (bits BinOp.and IntKind.u64 (↑(o1 8 u) / 4) 3689348814741910323 + bits BinOp.and IntKind.u64 (↑(o1 8 u)) 3689348814741910323) = ((o2 8 u : Nat) : Int) := by
  obtain ⟨l1, l2, _⟩ := o_lt u
  have e : o2 8 u = (o1 8 u / 4 &&& 3689348814741910323) + (o1 8 u &&& 3689348814741910323) := by unfold o2; rw [rep33]
  rw [and_nat (o1 8 u / 4) 3689348814741910323 _ _ (by omega) (by omega) (by omega) (by decide), and_nat (o1 8 u) 3689348814741910323 _ _ rfl (by omega) l1 (by decide), IntKind.wrap_u64]
  omega
theorem w3 (u : Nat) : bits BinOp.and IntKind.u64 (IntKind.u64.wrap (↑(o2 8 u) / 16 + ↑(o2 8 u))) 1085102592571150095 = ((o3 8 u : Nat) : Int) := by
  obtain ⟨_, _, l3⟩ := o_lt u
  have e : o3 8 u = (o2 8 u / 16 + o2 8 u) &&& 1085102592571150095 := by unfold o3; rw [rep0f]
  rw [and_nat (o2 8 u / 16 + o2 8 u) 1085102592571150095 _ _ (by rw [IntKind.wrap_u64]; omega) (by omega) (by omega) (by decide), e]
theorem w4 (u : Nat) : IntKind.u64.wrap (((o3 8 u : Nat) : Int) + ↑(o3 8 u) / 256) = ((o4 u : Nat) : Int) := by
  unfold o4; rw [IntKind.wrap_u64]; omega
theorem w5 (u : Nat) : IntKind.u64.wrap (((o4 u : Nat) : Int) + ↑(o4 u) / 65536) = ((o5 u : Nat) : Int) := by
  unfold o5; rw [IntKind.wrap_u64]; omega
theorem w6 (u : Nat) : IntKind.u64.wrap (((o5 u : Nat) : Int) + ↑(o5 u) / 4294967296) = ((o6 u : Nat) : Int) := by
  unfold o6; rw [IntKind.wrap_u64]; omega
theorem and_i64_low (a : Int) (k : Nat) (hk : k ≤ 62) : bits .and .i64 a (((2 ^ k - 1 : Nat)) : Int) = a % 2 ^ k := by
  have hp : 0 < 2 ^ k := Nat.two_pow_pos k
  have h62 : 2 ^ k ≤ 2 ^ 62 := Nat.pow_le_pow_right (by decide) hk
  show IntKind.i64.wrap ((BitVec.ofInt 64 a &&& BitVec.ofInt 64 ((2 ^ k - 1 : Nat) : Int)).toNat : Int) = _
  have h2 : (BitVec.ofInt 64 ((2 ^ k - 1 : Nat) : Int)).toNat = 2 ^ k - 1 := by
    rw [BitVec.ofInt_natCast, BitVec.toNat_ofNat]; exact Nat.mod_eq_of_lt (by omega)
  rw [BitVec.toNat_and, h2, Nat.and_two_pow_sub_one_eq_mod, BitVec.toNat_ofInt]
  have e1 : ((a % 2 ^ 64).toNat % 2 ^ k : Nat) = (((a % 2 ^ k).toNat : Nat)) := by
    have hd : ((2 : Int) ^ k) ∣ 2 ^ 64 := ⟨2 ^ (64 - k), by rw [← Int.pow_add, show k + (64 - k) = 64 by omega]⟩
    have hc : (((a % 2 ^ 64).toNat % 2 ^ k : Nat) : Int) = a % 2 ^ k := by
      rw [Int.natCast_emod, Int.toNat_of_nonneg (Int.emod_nonneg _ (by decide)), show ((2 ^ k : Nat) : Int) = (2 : Int) ^ k by simp, Int.emod_emod_of_dvd _ hd]
    omega
  rw [show (((2 ^ 64 : Nat)) : Int) = (2 : Int) ^ 64 by decide, e1]
  have b0 := Int.emod_nonneg a (show (2 : Int) ^ k ≠ 0 by have := two_pos k; omega)
  have b1 := Int.emod_lt_of_pos a (two_pos k)
  have c : ((2 ^ k : Nat) : Int) = (2 : Int) ^ k := by simp
  rw [Int.toNat_of_nonneg b0, IntKind.wrap_i64]
  generalize a % 2 ^ k = r at *
  generalize (2 : Int) ^ k = q at *
  omega
theorem w7 (u : Nat) (hu : u < 18446744073709551616) : bits BinOp.and IntKind.i64 (wrap64 ((o6 u : Nat) : Int)) 127 = ((pc u : Nat) : Int) := by
  have h := and_i64_low (wrap64 ((o6 u : Nat) : Int)) 7 (by decide)
  rw [show (((2 ^ 7 - 1 : Nat)) : Int) = 127 by decide] at h
  rw [h]
  have := (o6_is u hu).1
  unfold wrap64
  omega
/-- Places to turn by, as package math/bits reckons them. -/
theorem places (k : Int) : bits BinOp.and IntKind.u64 (IntKind.u64.wrap k) 63 = (((k % 64).toNat : Nat) : Int) := by
  rw [and_nat ((k % 18446744073709551616).toNat) 63 _ _ (by rw [IntKind.wrap_u64]; omega) (by omega) (by omega) (by decide)]
  have := Nat.and_two_pow_sub_one_eq_mod (k % 18446744073709551616).toNat 6
  rw [show (2 : Nat) ^ 6 - 1 = 63 from rfl] at this
  rw [this]
  omega
theorem or_disjoint (a b s : Nat) (h : b < 2 ^ s) : a * 2 ^ s ||| b = a * 2 ^ s + b := by
  rw [← Nat.shiftLeft_eq]; exact (Nat.shiftLeft_add_eq_or_of_lt h a).symm

theorem rot_walk (u s : Nat) (hu : u < 18446744073709551616) (hs : s < 64) : bits BinOp.or IntKind.u64 (IntKind.u64.wrap (↑u * 2 ^ s)) (↑u / 2 ^ (64 - s)) = ((rotK u s : Nat) : Int) := by
  have e := pow_split s (by omega)
  have p : 0 < 2 ^ (64 - s) := Nat.two_pow_pos _
  have ea : IntKind.u64.wrap ((u : Int) * 2 ^ s) = ((u % 2 ^ (64 - s) * 2 ^ s : Nat) : Int) := by
    rw [IntKind.wrap_u64, show (18446744073709551616 : Int) = ((2 ^ (64 - s) * 2 ^ s : Nat) : Int) by rw [Nat.mul_comm, e]; rfl, show ((u : Int) * 2 ^ s) = ((u * 2 ^ s : Nat) : Int) by simp, ← Int.natCast_emod, Nat.mul_mod_mul_right]
  have eb : ((u : Int) / 2 ^ (64 - s)) = ((u / 2 ^ (64 - s) : Nat) : Int) := by simp
  have hb : u / 2 ^ (64 - s) < 2 ^ s := by rw [Nat.div_lt_iff_lt_mul p, e]; exact hu
  have ha : u % 2 ^ (64 - s) * 2 ^ s < 18446744073709551616 := by
    rw [← e, Nat.mul_comm]; exact Nat.mul_lt_mul_of_pos_left (Nat.mod_lt _ p) (Nat.two_pow_pos s)
  have hb2 : u / 2 ^ (64 - s) < 18446744073709551616 := Nat.lt_of_le_of_lt (Nat.div_le_self _ _) hu
  rw [ea, eb, bits_or_u64_nat _ _ ha hb2, or_disjoint _ _ _ hb, rotK_eq u hu s (by omega)]
theorem mask_walk (k : Nat) (h : k ≤ 63) : IntKind.u64.wrap (IntKind.u64.wrap (2 ^ k) - 1) = ((2 ^ k - 1 : Nat) : Int) := by
  have p : 0 < 2 ^ k := Nat.two_pow_pos _
  have q : 2 ^ k ≤ 2 ^ 63 := Nat.pow_le_pow_right (by decide) h
  have e : ((2 : Int) ^ k) = ((2 ^ k : Nat) : Int) := by simp
  rw [e, IntKind.wrap_u64, IntKind.wrap_u64]
  generalize 2 ^ k = x at *
  omega

/-! ### The lowest bit -/
theorem ctz_spec (u : Nat) (h0 : u ≠ 0) (h : u < 18446744073709551616) : ∃ m, u = 2 ^ Lib.ctz 64 u * (2 * m + 1) ∧ Lib.ctz 64 u < 64 := by
  unfold Lib.ctz
  rw [if_neg h0]
  exact Lib.ctzFrom_spec 64 u (by omega) h
theorem ctz_unique (u j m : Nat) (h : u = 2 ^ j * (2 * m + 1)) (hu : u < 18446744073709551616) : Lib.ctz 64 u = j := by
  have h0 : u ≠ 0 := by
    intro e; rw [e] at h
    have : 0 < 2 ^ j * (2 * m + 1) := Nat.mul_pos (Nat.two_pow_pos j) (by omega)
    omega
  obtain ⟨m', e, _⟩ := ctz_spec u h0 hu
  generalize Lib.ctz 64 u = i at *
  rw [h] at e
  rcases Nat.lt_trichotomy i j with hl | he | hl
  · obtain ⟨d, rfl⟩ : ∃ d, j = i + (d + 1) := ⟨j - i - 1, by omega⟩
    rw [Nat.pow_add, Nat.mul_assoc] at e
    have e := Nat.eq_of_mul_eq_mul_left (Nat.two_pow_pos i) e
    rw [Nat.pow_succ, Nat.mul_comm _ 2, Nat.mul_assoc] at e
    omega
  · exact he
  · obtain ⟨d, rfl⟩ : ∃ d, i = j + (d + 1) := ⟨i - j - 1, by omega⟩
    rw [Nat.pow_add, Nat.mul_assoc] at e
    have e := Nat.eq_of_mul_eq_mul_left (Nat.two_pow_pos j) e
    rw [Nat.pow_succ, Nat.mul_comm _ 2, Nat.mul_assoc] at e
    omega
end Go.Proofs.Ytdmkkfpbgpijjaa
namespace Go.Proofs.Ytdmkkfpbgpijjaa
open Go.RowKit

set_option maxRecDepth 100000 in
set_option maxHeartbeats 400000 in
theorem zig_any (n : Int) (h1 : -9223372036854775808 ≤ n) (h2 : n < 9223372036854775808) (w : World) :
    Calls Try.prog 81 #[.int .i64 n] w fun e w' => e = .returned (.int .u64 (zigI n)) ∧ w = w' := by
  have hz := zig_walk n h1 h2
  go_enter Try.func81, Try.ntmps81
  go_wp2
  go_ret
  exact ⟨rfl, rfl⟩

set_option maxRecDepth 100000 in
set_option maxHeartbeats 400000 in
theorem zag_any (n : Nat) (hn : n < 18446744073709551616) (w : World) :
    Calls Try.prog 88 #[.int .u64 n] w fun e w' => e = .returned (.int .i64 (zagI n)) ∧ w = w' := by
  have hz := zag_walk n hn
  go_enter Try.func88, Try.ntmps88
  go_wp2
  go_ret
  exact ⟨rfl, rfl⟩

set_option maxRecDepth 100000 in
set_option maxHeartbeats 400000 in
theorem mask_any (k : Int) (h : 1 ≤ k) (h2 : k ≤ 63) (w : World) :
    Calls Try.prog 80 #[.int .i64 k] w fun e w' => e = .returned (.int .u64 ((2 ^ k.toNat - 1 : Nat) : Int)) ∧ w = w' := by
  go_enter Try.func80, Try.ntmps80
  go_wp2
  go_ret
  rw [mask_walk k.toNat (by omega)]
  exact ⟨rfl, rfl⟩

end Go.Proofs.Ytdmkkfpbgpijjaa
namespace Go.Proofs.Ytdmkkfpbgpijjaa
open Go.RowKit

/-- Right widths. -/
def sumI : List Int → Int
  | [] => 0
  | x :: xs => x + sumI xs
theorem sumI_append (a b : List Int) : sumI (a ++ b) = sumI a + sumI b := by
  induction a with
  | nil => simp [sumI]
  | cons x a ih => simp [sumI, ih]; omega
def okW (ws : List Int) : Bool := ws.all (fun x => decide (1 ≤ x) && decide (x ≤ 63)) && decide (sumI ws ≤ 64)
theorem sumI_pos (ws : List Int) (h : ∀ x ∈ ws, 1 ≤ x ∧ x ≤ 63) : 0 ≤ sumI ws := by
  induction ws with
  | nil => simp [sumI]
  | cons x a ih => have := ih (fun y hy => h y (by simp [hy])); have := h x (by simp); simp [sumI]; omega
theorem okW_iff (ws : List Int) : okW ws = true ↔ (∀ x ∈ ws, 1 ≤ x ∧ x ≤ 63) ∧ sumI ws ≤ 64 := by
  simp [okW]
theorem okW_bad (ws : List Int) (x : Int) (hx : x ∈ ws) (h : x < 1 ∨ 63 < x) : okW ws = false := by
  rw [Bool.eq_false_iff]; intro e
  have := ((okW_iff ws).1 e).1 x hx
  omega
theorem okW_over (ws : List Int) (k : Nat) (h : 64 < sumI (ws.take k)) : okW ws = false := by
  rw [Bool.eq_false_iff]; intro e
  obtain ⟨h1, h2⟩ := (okW_iff ws).1 e
  have e2 := sumI_append (ws.take k) (ws.drop k)
  rw [List.take_append_drop] at e2
  have := sumI_pos (ws.drop k) (fun x hx => h1 x (List.mem_of_mem_drop hx))
  omega
theorem sum_take (ws : List Int) (k : Nat) (h : k < ws.length) : sumI (ws.take (k + 1)) = sumI (ws.take k) + ws[k]?.getD 0 := by
  rw [List.take_succ_eq_append_getElem h, sumI_append]
  simp [sumI, h]

def RW (ws : List Int) (k : Nat) : Prop := (∀ x ∈ ws.take k, 1 ≤ x ∧ x ≤ 63) ∧ 0 ≤ sumI (ws.take k) ∧ sumI (ws.take k) ≤ 64

theorem rw_step (ws : List Int) (k : Nat) (x : Int) (hlt : k < ws.length) (hx : ws[k]?.getD 0 = x) (h : RW ws k) (h1 : 1 ≤ x ∧ x ≤ 63) (h2 : 0 ≤ sumI (ws.take (k + 1))) (h3 : sumI (ws.take (k + 1)) ≤ 64) : RW ws (k + 1) := by
  refine ⟨?_, h2, h3⟩
  rw [List.take_succ_eq_append_getElem hlt]
  intro y hy
  rcases List.mem_append.1 hy with hy | hy
  · exact h.1 y hy
  · simp [hlt] at hx hy; subst hy; subst hx; exact h1
theorem rw_end (ws : List Int) (h : RW ws ws.length) : okW ws = true := by
  have h1 := h.1; have h3 := h.2.2
  rw [List.take_length] at h1 h3
  exact (okW_iff ws).2 ⟨h1, h3⟩

set_option maxRecDepth 100000 in
set_option maxHeartbeats 400000 in
theorem rightWidths_any (A : Option Addr) (ws : List Int) (c B : Nat) (w : World) (h : Ints .i64 B w A ws) (hl : ws.length ≤ 17592186044416) :
    Calls Try.prog 78 #[.slice A ws.length c] w fun e w' => e = .returned (.bool (okW ws)) ∧ w = w' := by
  go_enter Try.func78, Try.ntmps78
  go_wp2
  go_loop [3, 8] (fun s i => ∃ k : Nat, k ≤ ws.length ∧ i = .int .i64 k ∧ s = .int .i64 (sumI (ws.take k)) ∧ RW ws k) (fun _ i => ws.length - (intOf i).toNat)
  case atStart => exact ⟨0, Nat.zero_le _, rfl, rfl, by simp, by simp [sumI], by simp [sumI]⟩
  case round =>
    obtain ⟨k, hk, rfl, rfl, hr⟩ := hrel
    by_cases hlt : k < ws.length
    · obtain ⟨b, off, rfl, hb, hc⟩ := h (by omega)
      have hck := hc k hlt
      have hs1 := hr.2.1
      have hs2 := hr.2.2
      have hst := Lib.hid (sum_take ws k hlt)
      have hm : ws[k]?.getD 0 ∈ ws := by simp [hlt]
      clear hc
      generalize sumI (ws.take k) = s at *
      have hmm := Lib.hid hm
      clear hm
      generalize hx : ws[k]?.getD 0 = x at *
      have hx := Lib.hid hx
      go_wp2
      · go_ret
        exact ⟨by rw [okW_bad ws x hmm.out (by omega)]; rfl, rfl⟩
      · go_ret
        exact ⟨by rw [okW_over ws (k + 1) (by rw [hst.out]; omega)]; rfl, rfl⟩
      · go_round
        case rel => exact ⟨k + 1, by omega, by go_num, by rw [hst.out], rw_step ws k x hlt hx.out hr (by omega) (by rw [hst.out]; omega) (by rw [hst.out]; omega)⟩
        case measure => simp [intOf]; omega
      · go_ret
        exact ⟨by rw [okW_bad ws x hmm.out (by omega)]; rfl, rfl⟩
    · obtain rfl : k = ws.length := by omega
      go_wp2
      go_ret
      exact ⟨by rw [rw_end ws hr]; rfl, rfl⟩

end Go.Proofs.Ytdmkkfpbgpijjaa
namespace Go.Proofs.Ytdmkkfpbgpijjaa
open Go.RowKit Go.Deep

set_option maxRecDepth 100000 in
theorem info_int : (Try.prog.info? 3).map (fun i => (i.zero, i.size, i.bytes)) = some (some (.int .i64 0), 1, 8) := by kernel_rfl

def byteAt (u j : Nat) : Nat := u / 2 ^ (8 * j) % 256

theorem shr_ne (u m : Nat) (h : u / 2 ^ (8 * m) ≠ 0) : ((u : Int) / 2 ^ (8 * m) != 0) = true := by
  have e : ((u : Int) / 2 ^ (8 * m)) = ((u / 2 ^ (8 * m) : Nat) : Int) := by simp
  rw [e]; simp only [bne_iff_ne]; omega
theorem shr_eq (u m : Nat) (h : u / 2 ^ (8 * m) = 0) : ((u : Int) / 2 ^ (8 * m) != 0) = false := by
  have e : ((u : Int) / 2 ^ (8 * m)) = ((u / 2 ^ (8 * m) : Nat) : Int) := by simp
  rw [e, h]; rfl
theorem byte_walk (u k : Nat) : IntKind.u8.wrap ((u : Int) / 2 ^ (8 * k)) = ((byteAt u k : Nat) : Int) := by
  have e : ((u : Int) / 2 ^ (8 * k)) = ((u / 2 ^ (8 * k) : Nat) : Int) := by simp
  rw [e]; unfold byteAt
  simp [IntKind.wrap, IntKind.signed, IntKind.bits]

set_option maxRecDepth 100000 in
set_option maxHeartbeats 400000 in
theorem bytes_no (u : Nat) (_hu : u < 18446744073709551616) (n : Int) (h : n < 0 ∨ 8 < n ∨ (0 ≤ n ∧ n ≤ 8 ∧ u / 2 ^ (8 * n.toNat) ≠ 0)) (w : World) :
    Calls Try.prog 59 #[.int .u64 u, .int .i64 n] w fun e w' => e = .returned (.slice none 0 0) ∧ w = w' := by
  rcases h with h | h | ⟨h0, h8, h⟩
  · go_enter Try.func59, Try.ntmps59
    go_wp2
    go_ret
    exact ⟨rfl, rfl⟩
  · have h0 : 0 ≤ n := by omega
    go_enter Try.func59, Try.ntmps59
    go_wp2
    go_ret
    exact ⟨rfl, rfl⟩
  · obtain ⟨m, rfl⟩ : ∃ m : Nat, n = m := ⟨n.toNat, by omega⟩
    have hb := shr_ne u m h
    clear h
    go_enter Try.func59, Try.ntmps59
    go_wp2
    go_ret
    exact ⟨rfl, rfl⟩

set_option maxRecDepth 100000 in
set_option maxHeartbeats 400000 in
theorem bytes_yes (u : Nat) (_hu : u < 18446744073709551616) (n : Nat) (h : n ≤ 8) (hz : u / 2 ^ (8 * n) = 0) (w : World) :
    Calls Try.prog 59 #[.int .u64 u, .int .i64 n] w fun e w' => e = .returned (.slice (some ⟨w.heap.size, 0, none⟩) n n) ∧ w'.rowIs w.heap.size 5 n (fun j => .int .u8 (byteAt u j)) ∧ Below w.heap.size w w' := by
  have hmk := fun W => run_make_row' (P := Try.prog) 52 5 (.int .u8 0) 1 Try.underlying52 info_u8 rfl .i64 .i64 n (by omega) (by omega) W
  have hb := shr_eq u n hz
  clear hz
  have hw := byte_walk u
  go_enter Try.func59, Try.ntmps59
  go_wp2
  go_loopw [24, 6] (fun i _ wr => ∃ k : Nat, k ≤ n ∧ i = .int .i64 k ∧ wr.rowIs w.heap.size 5 n (fun j => if j < k then .int .u8 (byteAt u j) else .int .u8 0) ∧ Below w.heap.size w wr) (fun i _ _ => n - (intOf i).toNat)
  case atStart => exact ⟨0, Nat.zero_le _, rfl, (World.rowIs_made w (.int .u8 0) n 5).congr (fun i _ => by simp), (Below.refl _ _).alloc (Nat.le_refl _) _⟩
  case round =>
    obtain ⟨k, hk, rfl, hrow, hbl⟩ := hrel
    by_cases hlt : k < n
    · have hc := hrow.cell hlt
      have hf := hrow.frozen k
      rw [if_neg (Nat.lt_irrefl k)] at hc
      go_wp2
      go_roundw
      case rel => exact ⟨k + 1, by omega, by go_num, (hrow.set k _).congr (fun i _ => by by_cases e : i = k <;> by_cases e2 : i < k <;> simp [e, e2] <;> omega), hbl.setCell (p := ⟨w.heap.size, k, none⟩) (Nat.le_refl _) _⟩
      case measure => simp [intOf]; omega
    · obtain rfl : k = n := by omega
      go_wp2
      go_ret
      exact ⟨rfl, hrow.congr (fun i hi => by simp [hi]), hbl⟩

/-! ### Unpack -/
/-- How many bits lie below number k. -/
def offN (ws : List Int) (k : Nat) : Nat := (sumI (ws.take k)).toNat
def fieldAt (ws : List Int) (u k : Nat) : Nat := u / 2 ^ offN ws k % 2 ^ (ws[k]?.getD 0).toNat
theorem fieldAt_eq (ws : List Int) (u k : Nat) : fieldAt ws u k = u / 2 ^ offN ws k % 2 ^ (ws[k]?.getD 0).toNat := rfl
def unpackL (ws : List Int) (u : Nat) : List Int := (List.range ws.length).map (fun k => (fieldAt ws u k : Int))

theorem okW_at (ws : List Int) (h : okW ws = true) (k : Nat) (hk : k < ws.length) : 1 ≤ ws[k]?.getD 0 ∧ ws[k]?.getD 0 ≤ 63 := by
  have := ((okW_iff ws).1 h).1 (ws[k]) (by simp)
  simp [hk]; omega
theorem take_nonneg (ws : List Int) (h : okW ws = true) (k : Nat) : 0 ≤ sumI (ws.take k) :=
  sumI_pos _ (fun x hx => ((okW_iff ws).1 h).1 x (List.mem_of_mem_take hx))
theorem offN_succ (ws : List Int) (h : okW ws = true) (k : Nat) (hk : k < ws.length) : offN ws (k + 1) = offN ws k + (ws[k]?.getD 0).toNat := by
  unfold offN
  rw [sum_take ws k hk]
  have := take_nonneg ws h k
  have := okW_at ws h k hk
  omega
theorem offN_le (ws : List Int) (h : okW ws = true) (k : Nat) : offN ws k ≤ 64 := by
  have e := sumI_append (ws.take k) (ws.drop k)
  rw [List.take_append_drop] at e
  have h1 := ((okW_iff ws).1 h).2
  have := sumI_pos (ws.drop k) (fun x hx => ((okW_iff ws).1 h).1 x (List.mem_of_mem_drop hx))
  unfold offN
  omega
theorem rest_succ (ws : List Int) (u : Nat) (h : okW ws = true) (k : Nat) (hk : k < ws.length) : u / 2 ^ offN ws k / 2 ^ (ws[k]?.getD 0).toNat = u / 2 ^ offN ws (k + 1) := by
  rw [offN_succ ws h k hk, Nat.pow_add, Nat.div_div_eq_div_mul]
theorem and_mask (r k : Nat) (hr : r < 18446744073709551616) (hk : k ≤ 63) : bits .and .u64 (r : Int) ((2 ^ k - 1 : Nat) : Int) = ((r % 2 ^ k : Nat) : Int) := by
  have : 2 ^ k ≤ 2 ^ 63 := Nat.pow_le_pow_right (by decide) hk
  have p : 0 < 2 ^ k := Nat.two_pow_pos k
  rw [bits_and_u64_nat _ _ hr (by omega), Nat.and_two_pow_sub_one_eq_mod]
theorem mod63 (r k : Nat) (hk : k ≤ 63) : r % 2 ^ k < 9223372036854775808 := by
  have : 2 ^ k ≤ 2 ^ 63 := Nat.pow_le_pow_right (by decide) hk
  have := Nat.mod_lt r (Nat.two_pow_pos k)
  omega

set_option maxRecDepth 100000 in
set_option maxHeartbeats 400000 in
theorem unpack_bad (A : Option Addr) (ws : List Int) (c B u : Nat) (w : World) (h : Ints .i64 B w A ws) (hl : ws.length ≤ 17592186044416) (ho : okW ws = false) :
    Calls Try.prog 84 #[.slice A ws.length c, .int .u64 u] w fun e w' => e = .returned (.tuple #[.slice none 0 0, .bool false]) ∧ w = w' := by
  have H := rightWidths_any A ws c B w h hl
  rw [ho] at H
  clear ho
  go_enter Try.func84, Try.ntmps84
  go_wp2_with (go_at_call 78; refine H.mono ?_; clear H; rintro e w' ⟨rfl, rfl⟩)
  go_ret2
  exact ⟨rfl, rfl⟩

def UnpackOk (ws : List Int) (u : Nat) (w : World) (e : Ending) (w' : World) : Prop :=
  e = .returned (.tuple #[.slice (some ⟨w.heap.size, 0, none⟩) ws.length ws.length, .bool true]) ∧ w'.rowIs w.heap.size 3 ws.length (fun j => .int .i64 (fieldAt ws u j)) ∧ Below w.heap.size w w'
def UnpackNo (w : World) (e : Ending) (w' : World) : Prop :=
  e = .returned (.tuple #[.slice none 0 0, .bool false]) ∧ Below w.heap.size w w'

set_option maxRecDepth 100000 in
set_option maxHeartbeats 400000 in
theorem unpack_good (A : Option Addr) (ws : List Int) (c u : Nat) (hu : u < 18446744073709551616) (w : World) (h : Ints .i64 w.heap.size w A ws) (hl : ws.length ≤ 64) (ho : okW ws = true) :
    Calls Try.prog 84 #[.slice A ws.length c, .int .u64 u] w fun e w' => (u / 2 ^ offN ws ws.length = 0 ∧ UnpackOk ws u w e w') ∨ (u / 2 ^ offN ws ws.length ≠ 0 ∧ UnpackNo w e w') := by
  have H := rightWidths_any A ws c w.heap.size w h (by omega)
  rw [ho] at H
  have HO := Lib.hid ho
  clear ho
  have hmk := fun W => run_make_row' (P := Try.prog) 108 3 (.int .i64 0) 8 Try.underlying108 info_int rfl .i64 .i64 ws.length (by omega) (by omega) W
  go_enter Try.func84, Try.ntmps84
  go_wp2_with (go_at_call 78; refine H.mono ?_; clear H; rintro e w' ⟨rfl, rfl⟩)
  go_loopw [1, 7, 8, 17] (fun r _ _ i wr => ∃ k : Nat, k ≤ ws.length ∧ i = .int .i64 k ∧ r = .int .u64 ((u / 2 ^ offN ws k : Nat) : Int) ∧ wr.rowIs w.heap.size 3 ws.length (fun j => if j < k then .int .i64 (fieldAt ws u j) else .int .i64 0) ∧ Below w.heap.size w wr) (fun _ _ _ i _ => ws.length - (intOf i).toNat)
  case atStart => exact ⟨0, Nat.zero_le _, rfl, by simp [offN, sumI], (World.rowIs_made w (.int .i64 0) ws.length 3).congr (fun i _ => by simp), (Below.refl _ _).alloc (Nat.le_refl _) _⟩
  case round =>
    obtain ⟨k, hk, rfl, rfl, hrow, hbl⟩ := hrel
    by_cases hlt : k < ws.length
    · obtain ⟨b, off, rfl, hb, hc⟩ := h (by omega)
      have hck : wr.cell? ⟨b, off + k, none⟩ = some (.int .i64 (ws[k]?.getD 0)) := (hbl.cell (p := ⟨b, off + k, none⟩) hb).trans (hc k hlt)
      have hc0 := hrow.cell hlt
      have hf := hrow.frozen k
      rw [if_neg (Nat.lt_irrefl k)] at hc0
      have hr1 := Lib.hid (rest_succ ws u HO.out k hlt)
      have hfd := Lib.hid (fieldAt_eq ws u k)
      obtain ⟨hx1, hx2⟩ := okW_at ws HO.out k hlt
      have hrl : u / 2 ^ offN ws k < 18446744073709551616 := Nat.lt_of_le_of_lt (Nat.div_le_self _ _) hu
      clear hc
      generalize ws[k]?.getD 0 = x at *
      generalize u / 2 ^ offN ws k = r at *
      have ha := and_mask r x.toNat hrl (by omega)
      have hm := mod63 r x.toNat (by omega)
      have hd : (r : Int) / 2 ^ x.toNat = ((r / 2 ^ x.toNat : Nat) : Int) := by simp
      generalize hf0 : r % 2 ^ x.toNat = f at *
      generalize hq : r / 2 ^ x.toNat = q at *
      have HF := Lib.hid hf0
      have HQ := Lib.hid hq
      clear hf0 hq
      go_wp2_with (go_at_call 80; refine (mask_any _ hx1 hx2 _).mono ?_; rintro e w' ⟨rfl, rfl⟩)
      go_roundw
      case rel => exact ⟨k + 1, by omega, by go_num, by rw [← hr1.out], (hrow.set k _).congr (fun i _ => by by_cases e : i = k <;> by_cases e2 : i < k <;> simp [e, e2, hfd.out] <;> omega), hbl.setCell (p := ⟨w.heap.size, k, none⟩) (Nat.le_refl _) _⟩
      case measure => simp [intOf]; omega
    · obtain rfl : k = ws.length := by omega
      by_cases hz : u / 2 ^ offN ws ws.length = 0
      · have hz2 : (((u / 2 ^ offN ws ws.length : Nat) : Int) != 0) = false := by rw [hz]; rfl
        have HZ := Lib.hid hz
        clear hz
        generalize hzz : u / 2 ^ offN ws ws.length = z at *
        have HZZ := Lib.hid hzz
        clear hzz
        go_wp2
        go_ret2
        exact .inl ⟨HZZ.out.trans HZ.out, rfl, hrow.congr (fun i hi => by simp [hi]), hbl⟩
      · have hz2 : (((u / 2 ^ offN ws ws.length : Nat) : Int) != 0) = true := by simp only [bne_iff_ne]; omega
        have HZ := Lib.hid hz
        clear hz
        generalize hzz : u / 2 ^ offN ws ws.length = z at *
        have HZZ := Lib.hid hzz
        clear hzz
        go_wp2
        go_ret2
        exact .inr ⟨by rw [HZZ.out]; exact HZ.out, rfl, hbl⟩
end Go.Proofs.Ytdmkkfpbgpijjaa
namespace Go.Proofs.Ytdmkkfpbgpijjaa
open Go.RowKit Go.Shelf

attribute [local go_sem] Oper.semAt_some

/-- The places of a list of so many, from the last one down, k of them. -/
def downL (len k : Nat) : List Nat := (List.range k).map (fun j => len - 1 - j)
theorem downL_succ (len k : Nat) : downL len (k + 1) = downL len k ++ [len - 1 - k] := by simp [downL, List.range_succ]
theorem downL_length (len k : Nat) : (downL len k).length = k := by simp [downL]

/-- A place of a list of so many. -/
abbrev Pl (len : Nat) := { i : Nat // i < len }

/-- What lay below n₀ lies as it lay, and so does block Bs. -/
def KB (n₀ Bs : Nat) (A B : World) : Prop := Below n₀ A B ∧ B.heap[Bs]? = A.heap[Bs]?
theorem KB.refl (n₀ Bs : Nat) (A : World) : KB n₀ Bs A A := ⟨Below.refl _ _, rfl⟩
theorem KB.trans {n₀ Bs : Nat} {A B C : World} (h : KB n₀ Bs A B) (k : KB n₀ Bs B C) : KB n₀ Bs A C := ⟨h.1.trans k.1, k.2.trans h.2⟩
theorem KB.setCell {n₀ Bs : Nat} {A B : World} (h : KB n₀ Bs A B) {p : Addr} (hp : n₀ ≤ p.block) (hne : Bs ≠ p.block) (v : Value) : KB n₀ Bs A (B.setCell p v) :=
  ⟨h.1.setCell hp v, (Below.heap_setCell B p v Bs hne).trans h.2⟩
theorem KB.drew {n₀ Bs : Nat} {A B : World} (h : KB n₀ Bs A B) : KB n₀ Bs A B.drew := ⟨h.1.drew, h.2⟩
theorem KB.cell {n₀ Bs : Nat} {A B : World} (h : KB n₀ Bs A B) : B.cell? ⟨Bs, 0, none⟩ = A.cell? ⟨Bs, 0, none⟩ := World.cell?_of_block h.2
theorem kb_b {n₀ Bs : Nat} {w : World} (hn : n₀ ≤ w.heap.size) (hB : Bs < w.heap.size) (W : World) (l : Nat) (o o' : Obj) (hl : w.heap.size ≤ l) (h : W.heap[l]? = some o) (h1 : o.isCells = false) (h2 : o.isWalk = false) : KB n₀ Bs W (W.putObj l o') :=
  ⟨belowK_b hn W l o o' hl h h1 h2, World.putObj_heap_other (by omega)⟩

set_option maxRecDepth 100000 in
set_option maxHeartbeats 2000000 in
theorem backInts1_in (F : Fence) (n : Nat) (hf : F.fn 87) (hro : F.round = none) (hn : 1 ≤ n) (l Bs n₀ cap : Nat) (A : Option Addr) (zs : List Int) (hl : zs.length ≤ 17592186044416) (J Jx : List (Pl zs.length) → World → Prop)
    (hY : ∀ pre x W, J pre W → pre.length < zs.length → YieldAt F (n - 1) Try.prog l #[.int .i64 (x.1 : Int), .int .i64 (zs[x.1]?.getD 0)] W fun e W' =>
      (e = .returned (.bool true) ∧ J (pre ++ [x]) W' ∧ KB n₀ Bs W W') ∨ (e = .returned (.bool false) ∧ Jx (pre ++ [x]) W'))
    (W : World) (hBs : W.cell? ⟨Bs, 0, none⟩ = some (.slice A zs.length cap)) (hI : Ints .i64 n₀ W A zs) (h0 : J [] W) :
    CallsIn F n Try.prog 87 #[.func (.yield l) #[] #[], .pointer (some ⟨Bs, 0, none⟩)] W fun e W' => (∃ v, e = .returned v) ∧
      ((∃ ys, ys.map (·.1) = downL zs.length zs.length ∧ J ys W') ∨ (∃ pre, (∃ k, k ≤ zs.length ∧ pre.map (·.1) = downL zs.length k) ∧ Jx pre W')) := by
  refine callsIn_of_wp Try.func87 rfl hf ?_ hro
  simp only [Try.ntmps87, List.size_toArray, List.length_cons, List.length_nil, Nat.reduceAdd, Nat.reduceSub, Array.replicate_succ, Array.replicate_zero, List.push_toArray, List.append_toArray, List.nil_append, List.cons_append]
  gi_wp2
  gi_loopw [3] (fun i wr => ∃ (m : Nat) (pre : List (Pl zs.length)), m ≤ zs.length ∧ i = .int .i64 ((m : Int) - 1) ∧ pre.map (·.1) = downL zs.length (zs.length - m) ∧ J pre wr ∧ KB n₀ Bs W wr)
    (fun i _ => (intOf i + 1).toNat)
  case atStart => exact ⟨zs.length, [], Nat.le_refl _, rfl, by simp [downL], h0, KB.refl _ _ _⟩
  case round =>
    obtain ⟨m, pre, hm, hi, hp, hJs, hnx⟩ := hrel
    cases m with
    | zero =>
      rw [show ((0 : Nat) : Int) - 1 = -1 by omega] at hi
      subst hi
      have HP := Lib.hid hp
      clear hp
      gi_wp2
      go_end0
      exact ⟨⟨_, rfl⟩, .inl ⟨pre, HP.out, hJs⟩⟩
    | succ m =>
      rw [show ((m + 1 : Nat) : Int) - 1 = (m : Int) by omega] at hi
      subst hi
      obtain ⟨b, off, rfl, hb, hc⟩ := hI (by omega)
      have hcx : wr.cell? ⟨b, off + m, none⟩ = some (.int .i64 (zs[m]?.getD 0)) := (hnx.1.cell (p := ⟨b, off + m, none⟩) hb).trans (hc m (by omega))
      have hbx : wr.cell? ⟨Bs, 0, none⟩ = some (.slice (some ⟨b, off, none⟩) zs.length cap) := hnx.cell.trans hBs
      have hpl : pre.length = zs.length - (m + 1) := by
        have := congrArg List.length hp
        rwa [List.length_map, downL_length] at this
      obtain ⟨fn, tmps, assign, body, hy, hR⟩ := hY pre ⟨m, by omega⟩ wr hJs (by omega)
      have hp1 : (pre ++ [(⟨m, by omega⟩ : Pl zs.length)]).map (·.1) = downL zs.length (zs.length - m) := by
        rw [List.map_append, hp, show zs.length - m = (zs.length - (m + 1)) + 1 by omega, downL_succ]
        simp; omega
      have HP1 := Lib.hid hp1
      clear hp1 hp hpl hc
      dsimp only at hy
      generalize zs[m]?.getD 0 = z at hcx hy
      have hml : m < zs.length := by omega
      gi_wp2
      refine hR.mono ?_
      rintro e W3 (⟨rfl, hJ3, hk3⟩ | ⟨rfl, hJx3⟩)
      · gi_wp2
        go_roundw
        case rel => exact ⟨m, _, by omega, rfl, HP1.out, hJ3, hnx.trans hk3⟩
        case measure => simp [intOf]
      · gi_wp2
        refine bodyPost_ret (results_none rfl _ _ _) rfl ?_
        exact ⟨⟨_, rfl⟩, .inr ⟨_, ⟨zs.length - m, by omega, HP1.out⟩, hJx3⟩⟩

set_option maxHeartbeats 1000000 in
theorem backInts_in (F : Fence) (n : Nat) (hf : F.fn 79) (hro : F.round = none) (a : Option Addr) (len cap : Nat) (w : World) :
    CallsIn F n Try.prog 79 #[.slice a len cap] w fun e w' => e = .returned (.func (.func 87) #[] #[.pointer (some ⟨w.heap.size, 0, none⟩)]) ∧ w' = w.alloc (.cells #[.slice a len cap] 108) := by
  refine callsIn_of_wp Try.func79 rfl hf ?_ hro
  simp only [Try.ntmps79, List.size_toArray, List.length_cons, List.length_nil, Nat.reduceAdd, Nat.reduceSub, Array.replicate_succ, Array.replicate_zero, List.push_toArray, List.append_toArray, List.nil_append, List.cons_append]
  gi_wp2
  go_ret
  exact ⟨rfl, rfl⟩

theorem backInts_stops (F : Fence) (n : Nat) (hf : F.fn 87) (hro : F.round = none) (hn : 1 ≤ n) (Bs n₀ cap : Nat) (A : Option Addr) (zs : List Int) (hl : zs.length ≤ 17592186044416) (w : World) (hBs : Bs < w.heap.size) (hn₀ : n₀ ≤ w.heap.size)
    (hc : w.cell? ⟨Bs, 0, none⟩ = some (.slice A zs.length cap)) (hI : Ints .i64 n₀ w A zs) :
    SeqStopsK F n Try.prog 87 #[.pointer (some ⟨Bs, 0, none⟩)] (fun x : Pl zs.length => #[Value.int .i64 (x.1 : Int), Value.int .i64 (zs[x.1]?.getD 0)]) (KB n₀ Bs) (fun ys => ys.map (·.1) = downL zs.length zs.length)
      (fun pre => ∃ k, k ≤ zs.length ∧ pre.map (·.1) = downL zs.length k) zs.length w := fun l J Jx W hW _ _ hY h0 =>
  backInts1_in F n hf hro hn l Bs n₀ cap A zs hl J Jx hY W ((hW.cell (p := ⟨Bs, 0, none⟩) hBs).trans hc) (hI.below hW hn₀) h0
set_option maxRecDepth 100000 in
set_option maxHeartbeats 2000000 in
theorem backBytes1_in (F : Fence) (n : Nat) (hf : F.fn 83) (hro : F.round = none) (hn : 1 ≤ n) (l Bs n₀ cap : Nat) (A : Option Addr) (zs : List Int) (hl : zs.length ≤ 17592186044416) (J Jx : List (Pl zs.length) → World → Prop)
    (hY : ∀ pre x W, J pre W → pre.length < zs.length → YieldAt F (n - 1) Try.prog l #[.int .i64 (x.1 : Int), .int .u8 (zs[x.1]?.getD 0)] W fun e W' =>
      (e = .returned (.bool true) ∧ J (pre ++ [x]) W' ∧ KB n₀ Bs W W') ∨ (e = .returned (.bool false) ∧ Jx (pre ++ [x]) W'))
    (W : World) (hBs : W.cell? ⟨Bs, 0, none⟩ = some (.slice A zs.length cap)) (hI : Ints .u8 n₀ W A zs) (h0 : J [] W) :
    CallsIn F n Try.prog 83 #[.func (.yield l) #[] #[], .pointer (some ⟨Bs, 0, none⟩)] W fun e W' => (∃ v, e = .returned v) ∧
      ((∃ ys, ys.map (·.1) = downL zs.length zs.length ∧ J ys W') ∨ (∃ pre, (∃ k, k ≤ zs.length ∧ pre.map (·.1) = downL zs.length k) ∧ Jx pre W')) := by
  refine callsIn_of_wp Try.func83 rfl hf ?_ hro
  simp only [Try.ntmps83, List.size_toArray, List.length_cons, List.length_nil, Nat.reduceAdd, Nat.reduceSub, Array.replicate_succ, Array.replicate_zero, List.push_toArray, List.append_toArray, List.nil_append, List.cons_append]
  gi_wp2
  gi_loopw [3] (fun i wr => ∃ (m : Nat) (pre : List (Pl zs.length)), m ≤ zs.length ∧ i = .int .i64 ((m : Int) - 1) ∧ pre.map (·.1) = downL zs.length (zs.length - m) ∧ J pre wr ∧ KB n₀ Bs W wr)
    (fun i _ => (intOf i + 1).toNat)
  case atStart => exact ⟨zs.length, [], Nat.le_refl _, rfl, by simp [downL], h0, KB.refl _ _ _⟩
  case round =>
    obtain ⟨m, pre, hm, hi, hp, hJs, hnx⟩ := hrel
    cases m with
    | zero =>
      rw [show ((0 : Nat) : Int) - 1 = -1 by omega] at hi
      subst hi
      have HP := Lib.hid hp
      clear hp
      gi_wp2
      go_end0
      exact ⟨⟨_, rfl⟩, .inl ⟨pre, HP.out, hJs⟩⟩
    | succ m =>
      rw [show ((m + 1 : Nat) : Int) - 1 = (m : Int) by omega] at hi
      subst hi
      obtain ⟨b, off, rfl, hb, hc⟩ := hI (by omega)
      have hcx : wr.cell? ⟨b, off + m, none⟩ = some (.int .u8 (zs[m]?.getD 0)) := (hnx.1.cell (p := ⟨b, off + m, none⟩) hb).trans (hc m (by omega))
      have hbx : wr.cell? ⟨Bs, 0, none⟩ = some (.slice (some ⟨b, off, none⟩) zs.length cap) := hnx.cell.trans hBs
      have hpl : pre.length = zs.length - (m + 1) := by
        have := congrArg List.length hp
        rwa [List.length_map, downL_length] at this
      obtain ⟨fn, tmps, assign, body, hy, hR⟩ := hY pre ⟨m, by omega⟩ wr hJs (by omega)
      have hp1 : (pre ++ [(⟨m, by omega⟩ : Pl zs.length)]).map (·.1) = downL zs.length (zs.length - m) := by
        rw [List.map_append, hp, show zs.length - m = (zs.length - (m + 1)) + 1 by omega, downL_succ]
        simp; omega
      have HP1 := Lib.hid hp1
      clear hp1 hp hpl hc
      dsimp only at hy
      generalize zs[m]?.getD 0 = z at hcx hy
      have hml : m < zs.length := by omega
      gi_wp2
      refine hR.mono ?_
      rintro e W3 (⟨rfl, hJ3, hk3⟩ | ⟨rfl, hJx3⟩)
      · gi_wp2
        go_roundw
        case rel => exact ⟨m, _, by omega, rfl, HP1.out, hJ3, hnx.trans hk3⟩
        case measure => simp [intOf]
      · gi_wp2
        refine bodyPost_ret (results_none rfl _ _ _) rfl ?_
        exact ⟨⟨_, rfl⟩, .inr ⟨_, ⟨zs.length - m, by omega, HP1.out⟩, hJx3⟩⟩

set_option maxHeartbeats 1000000 in
theorem backBytes_in (F : Fence) (n : Nat) (hf : F.fn 74) (hro : F.round = none) (a : Option Addr) (len cap : Nat) (w : World) :
    CallsIn F n Try.prog 74 #[.slice a len cap] w fun e w' => e = .returned (.func (.func 83) #[] #[.pointer (some ⟨w.heap.size, 0, none⟩)]) ∧ w' = w.alloc (.cells #[.slice a len cap] 52) := by
  refine callsIn_of_wp Try.func74 rfl hf ?_ hro
  simp only [Try.ntmps74, List.size_toArray, List.length_cons, List.length_nil, Nat.reduceAdd, Nat.reduceSub, Array.replicate_succ, Array.replicate_zero, List.push_toArray, List.append_toArray, List.nil_append, List.cons_append]
  gi_wp2
  go_ret
  exact ⟨rfl, rfl⟩

theorem backBytes_stops (F : Fence) (n : Nat) (hf : F.fn 83) (hro : F.round = none) (hn : 1 ≤ n) (Bs n₀ cap : Nat) (A : Option Addr) (zs : List Int) (hl : zs.length ≤ 17592186044416) (w : World) (hBs : Bs < w.heap.size) (hn₀ : n₀ ≤ w.heap.size)
    (hc : w.cell? ⟨Bs, 0, none⟩ = some (.slice A zs.length cap)) (hI : Ints .u8 n₀ w A zs) :
    SeqStopsK F n Try.prog 83 #[.pointer (some ⟨Bs, 0, none⟩)] (fun x : Pl zs.length => #[Value.int .i64 (x.1 : Int), Value.int .u8 (zs[x.1]?.getD 0)]) (KB n₀ Bs) (fun ys => ys.map (·.1) = downL zs.length zs.length)
      (fun pre => ∃ k, k ≤ zs.length ∧ pre.map (·.1) = downL zs.length k) zs.length w := fun l J Jx W hW _ _ hY h0 =>
  backBytes1_in F n hf hro hn l Bs n₀ cap A zs hl J Jx hY W ((hW.cell (p := ⟨Bs, 0, none⟩) hBs).trans hc) (hI.below hW hn₀) h0

end Go.Proofs.Ytdmkkfpbgpijjaa
namespace Go.Proofs.Ytdmkkfpbgpijjaa
open Go.RowKit Go.Shelf

attribute [local go_sem] Oper.semAt_some

def fstep (u z : Nat) : Nat := u * 256 % 18446744073709551616 + z
def fF (zs : List Int) (L : List Nat) : Nat := L.foldl (fun u i => fstep u (zs[i]?.getD 0).toNat) 0
def fromN : List Int → Nat
  | [] => 0
  | z :: zs => z.toNat + 256 * fromN zs
theorem fromN_cons (z : Int) (zs : List Int) : fromN (z :: zs) = z.toNat + 256 * fromN zs := rfl
theorem isBytes_at (zs : List Int) (h : isBytes zs) (i : Nat) : 0 ≤ zs[i]?.getD 0 ∧ zs[i]?.getD 0 < 256 := by
  by_cases hi : i < zs.length
  · have := h zs[i] (by simp)
    simp [hi]; omega
  · simp [hi]
theorem fromN_lt (zs : List Int) (h : isBytes zs) : fromN zs < 256 ^ zs.length := by
  induction zs with
  | nil => simp [fromN]
  | cons z zs ih =>
    have h1 := ih (fun y hy => h y (by simp [hy]))
    have h2 := h z (by simp)
    rw [List.length_cons, Nat.pow_succ]
    rw [fromN_cons]
    omega
theorem fF_down (zs : List Int) (h : isBytes zs) (hl : zs.length ≤ 8) : ∀ k, k ≤ zs.length → fF zs (downL zs.length k) = fromN (zs.drop (zs.length - k)) := by
  intro k
  induction k with
  | zero => intro _; simp [downL, fF, fromN]
  | succ k ih =>
    intro hk
    have e1 : fF zs (downL zs.length (k + 1)) = fstep (fF zs (downL zs.length k)) (zs[zs.length - 1 - k]?.getD 0).toNat := by
      rw [downL_succ]; unfold fF; rw [List.foldl_append]; rfl
    have hi : zs.length - (k + 1) < zs.length := by omega
    have e2 : zs.drop (zs.length - (k + 1)) = zs[zs.length - (k + 1)] :: zs.drop (zs.length - k) := by
      rw [List.drop_eq_getElem_cons hi, show zs.length - (k + 1) + 1 = zs.length - k by omega]
    have hlt := fromN_lt (zs.drop (zs.length - k)) (fun y hy => h y (List.mem_of_mem_drop hy))
    rw [List.length_drop, show zs.length - (zs.length - k) = k by omega] at hlt
    have hp : 256 ^ k ≤ 256 ^ 7 := Nat.pow_le_pow_right (by decide) (by omega)
    rw [e1, ih (by omega), e2, fromN_cons]
    unfold fstep
    rw [show zs.length - 1 - k = zs.length - (k + 1) by omega]
    simp only [List.getElem?_eq_getElem hi, Option.getD_some]
    rw [Nat.mod_eq_of_lt (by omega)]
    omega
theorem fF_snoc (zs : List Int) (pre : List (Pl zs.length)) (x : Pl zs.length) : fF zs ((pre ++ [x]).map (·.1)) = fstep (fF zs (pre.map (·.1))) (zs[x.1]?.getD 0).toNat := by
  simp [fF]
theorem fstep_lt (u z : Nat) (hz : z < 256) : fstep u z < 18446744073709551616 := by unfold fstep; omega
theorem fF_lt (zs : List Int) (h : isBytes zs) (L : List Nat) : fF zs L < 18446744073709551616 := by
  rcases List.eq_nil_or_concat L with rfl | ⟨L', x, rfl⟩
  · simp [fF]
  · unfold fF
    rw [List.concat_eq_append, List.foldl_append]
    have := isBytes_at zs h x
    exact fstep_lt _ _ (by omega)
theorem fstep_walk (u : Nat) (z : Int) (h1 : 0 ≤ z) (h2 : z < 256) : bits .or .u64 (IntKind.u64.wrap ((u : Int) * 256)) z = ((fstep u z.toNat : Nat) : Int) := by
  have e : IntKind.u64.wrap ((u : Int) * 256) = ((u * 256 % 18446744073709551616 : Nat) : Int) := by rw [IntKind.wrap_u64]; omega
  have ez : z = (z.toNat : Int) := by omega
  have em : u * 256 % 18446744073709551616 = (u * 256 % 18446744073709551616 / 256) * 2 ^ 8 := by omega
  have hz : z.toNat < 2 ^ 8 := by omega
  rw [e]
  conv => lhs; rw [ez]
  rw [bits_or_u64_nat _ _ (by omega) (by omega)]
  unfold fstep
  rw [em, or_disjoint _ _ 8 hz]

set_option maxRecDepth 100000 in
set_option maxHeartbeats 2000000 in
theorem from_in (F : Fence) (n : Nat) (h0 : F.fn 61) (h1 : F.fn 74) (h2 : F.fn 83) (hro : F.round = none) (hn : 3 ≤ n) (A : Option Addr) (cap : Nat) (zs : List Int) (hz : isBytes zs) (hl : zs.length ≤ 8) (w : World) (hI : Ints .u8 w.heap.size w A zs) :
    CallsIn F n Try.prog 61 #[.slice A zs.length cap] w fun e W' => e = .returned (.tuple #[.int .u64 (fromN zs), .bool true]) ∧ Below w.heap.size w W' := by
  have hn1 : 1 ≤ n := by omega
  have hd : decide ((8 : Int) < (zs.length : Int)) = false := by simp; omega
  refine callsIn_of_wp_marks Try.func61 rfl h0 ?_ hro
  simp only [Try.ntmps61, List.size_toArray, List.length_cons, List.length_nil, Nat.reduceAdd, Nat.reduceSub, Array.replicate_succ, Array.replicate_zero, List.push_toArray, List.append_toArray, List.nil_append, List.cons_append]
  gi_wp2_with (gi_at_call 74; refine (backBytes_in F (n - 1) h1 hro _ _ _ _).mono ?_; rintro e w' ⟨rfl, rfl⟩)
  have bS := Boxed.new w 111 (.int .u64 0)
  have bN := Boxed.new (w.alloc (.cells #[.int .u64 0] 111)) 52 (.slice A zs.length cap)
  rw [World.size_alloc] at bN
  have hB0 : Below w.heap.size w ((w.alloc (.cells #[.int .u64 0] 111)).alloc (.cells #[.slice A zs.length cap] 52)) := ((Below.refl _ w).alloc (Nat.le_refl _) _).alloc (by simp) _
  refine wpIn_rangeFunc_ownG hro hn1 (gf := 83) (lb := #[.pointer (some ⟨w.heap.size + 1, 0, none⟩)]) rfl h2 (enters_of Try.func83 (by kernel_rfl) rfl)
    (backBytes_stops F (n - 1) h2 hro (by omega) (w.heap.size + 1) w.heap.size cap A zs (by omega) _ (by simp) (by simp; omega) bN.cell (hI.below hB0 (Nat.le_refl _))) KB.trans (kb_b (by simp; omega) (by simp)) (Below.refl _ _) (fun _ => rfl)
    (fun pre W => (W.cell? ⟨w.heap.size, 0, none⟩ = some (.int .u64 ((fF zs (pre.map (·.1)) : Nat) : Int)) ∧ W.frozen? ⟨w.heap.size, 0, none⟩ = false) ∧ Below w.heap.size w W)
    (fun _ _ _ => False)
    (OwnFrom.and (Own.from (fun s A B row hs hg hr => ⟨cell_kept hs.1 hg hr, (frozen_kept hs.1 hg hr).trans hs.2⟩) _) (ownFrom_below (Nat.le_refl _) (by simp; omega)))
    (fun _ _ _ _ _ hs _ _ => hs)
    ⟨⟨(bS.alloc _).cell, (bS.alloc _).frozen⟩, hB0⟩
    (fun x => { tmps := #[Value.slice A zs.length cap, undef, Value.int IntKind.u64 0, Value.bool false, .pointer (some ⟨w.heap.size, 0, none⟩), undef, .int .u8 (zs[x.1]?.getD 0), .slice A zs.length cap, .int .i64 zs.length, .bool false, .slice A zs.length cap, .func (.func 83) #[] #[.pointer (some ⟨w.heap.size + 1, 0, none⟩)], .int .i64 (x.1 : Int), .int .u8 (zs[x.1]?.getD 0), undef, undef, undef, undef, undef, undef], defers := [] }) ?assign ?body ?done ?stop
  case assign =>
    intro l x W K hK
    generalize zs[x.1]?.getD 0 = z at *
    gi_wp2
    exact hK
  case body =>
    rintro l pre x W ⟨⟨hc, hf⟩, hB⟩ _
    obtain ⟨hz1, hz2⟩ := isBytes_at zs hz x.1
    have hw := fstep_walk (fF zs (pre.map (·.1))) (zs[x.1]?.getD 0) hz1 hz2
    have hu := fF_lt zs hz (pre.map (·.1))
    have hsn := Lib.hid (fF_snoc zs pre x)
    generalize zs[x.1]?.getD 0 = z at *
    generalize fF zs (pre.map (·.1)) = u at *
    gi_wp2
    exact ⟨(KeepsOthers.setCell _ _ _).from _, (KB.refl _ _ W).setCell (p := ⟨w.heap.size, 0, none⟩) (Nat.le_refl _) (by simp) _, ⟨by rw [hsn.out]; exact World.cell?_setCell_same' _ _ _ (by rw [hc]; rfl), by rw [World.frozen?_setCell]; exact hf⟩, hB.setCell (p := ⟨w.heap.size, 0, none⟩) (Nat.le_refl _) _⟩
  case done =>
    rintro D ys W hD hys ⟨⟨hc, _⟩, hB⟩ hK
    rw [hys, fF_down zs hz hl zs.length (Nat.le_refl _), Nat.sub_self, List.drop_zero] at hc
    gi_wp2
    refine ⟨by simp, .inl ⟨_, _, rfl, run_takeDeferred hK, ?_⟩⟩
    exact ⟨_, results_tmp2 rfl _ _ _, rfl, hB.trans (belowK_b (w := w) (Nat.le_refl _) W D _ _ (by simp at hD; omega) hK rfl rfl)⟩
  case stop =>
    rintro D c pre W _ _ h _
    exact h.elim
end Go.Proofs.Ytdmkkfpbgpijjaa
namespace Go.Proofs.Ytdmkkfpbgpijjaa

theorem upon_round {P : Program} {l n : Nat} {o : Oper} {a : Act} {K : Act → World → Prop} {Q : Exit → Act → World → Prop} {r : Result Next} (h : o.upon P a K Q r) : o.uponIn (Fence.wide.inRound l) n P a K Q r := by
  unfold Oper.upon at h
  unfold Oper.uponIn
  split at h
  · exact h
  · exact h
  · exact h
  · exact ⟨(fun hh => by cases hh), CallsIn.inRound l (callsIn_wide.2 h)⟩
  · refine ⟨(fun hh => by cases hh), fun c cs _ => ?_⟩
    obtain ⟨v, w', r, s⟩ := h c cs
    exact ⟨v, w', r, stepsIn_wide.2 s⟩
  · exact h
  · exact h.elim

theorem wpIn_of_wp {P : Program} {l n : Nat} {o : Oper} {a : Act} {w : World} {K : Act → World → Prop} {Q : Exit → Act → World → Prop} (hnd : ∀ c, o.op ≠ .defer c) (h : o.wp P a w K Q) : o.wpIn (Fence.wide.inRound l) n P a w K Q := by
  refine ⟨fun _ _ => trivial, ?_⟩
  rw [show (Fence.wide.inRound l).round = some l from rfl, Oper.semAt_some l _ _ hnd]
  exact upon_round h

/-- No operation of a region is a 'defer' statement. -/
def NoDefer (ops : Array Oper) : Prop := ∀ (i : Nat) (o : Oper), ops[i]? = some o → ∀ c, o.op ≠ .defer c

def deferB (o : Oper) : Bool := match o.op with
  | .defer _ => true
  | _ => false
theorem NoDefer.of {ops : List Oper} (h : ops.all (fun o => !deferB o) = true) : NoDefer ops.toArray := by
  intro i o ho c hc
  have hm : o ∈ ops := by
    rw [List.getElem?_toArray] at ho
    exact List.mem_of_getElem? ho
  have := List.all_eq_true.1 h o hm
  simp [deferB, hc] at this

theorem wpOpIn_of_stOp {P : Program} {l n : Nat} {ops : Array Oper} {Q : Exit → Act → World → Prop} (hnd : NoDefer ops) {i : Nat} {K : Act → Prop} {K' : Act → World → Prop} {w : World} (hK : ∀ a, K a → K' a w) {a : Act} (h : stOp P ops w i K a) : wpOpIn (Fence.wide.inRound l) n P ops Q i K' a w := by
  unfold stOp at h
  unfold wpOpIn
  cases ho : ops[i]? with
  | none => rw [ho] at h; exact hK _ h
  | some o =>
    rw [ho] at h
    simp only at h ⊢
    split
    · rename_i hw
      rw [if_pos hw] at h
      exact wpIn_of_wp (hnd i o ho) (Oper.wp_of_still hK h)
    · rename_i hw
      rw [if_neg hw] at h
      exact ⟨fun _ _ => trivial, hK _ h⟩

theorem wpAnyIn_of_head {P : Program} {md : Region.Mode} {l m : Nat} {ops : Array Oper} (hnd : NoDefer ops) {n g : Nat} {L : Array Bool → Act → Prop} {Q' : Exit → Act → World → Prop} {w : World} (hL : ∀ listed a, L listed a → wpAnyIn (Fence.wide.inRound l) m P md ops Q' g listed a w) :
    ∀ (f : Nat) (listed : Array Bool) (a : Act), wpAnyL P md ops w n L f listed a → wpAnyIn (Fence.wide.inRound l) m P md ops Q' (f + g) listed a w
  | 0, listed, a, h => by rw [Nat.zero_add]; exact hL _ _ h
  | f + 1, listed, a, h => by
    rw [show f + 1 + g = (f + g) + 1 by omega]
    exact ⟨fun h0 => absurd h0 h.1, fun i hi => wpOpIn_of_stOp hnd (fun a' h' => wpAnyIn_of_head hnd hL f _ a' h') (h.2 i hi).2⟩

theorem wpAnyIn_of_seq {P : Program} {md : Region.Mode} {F : Fence} {m : Nat} {ops : Array Oper} {Q' : Exit → Act → World → Prop} : ∀ (l : List Oper) (k : Nat) (listed : Array Bool) (a : Act) (w : World), (∀ j : Nat, l[j]? = ops[k + j]?) →
    Region.seqB md ops l.length k listed = true → wpListIn F m P ops Q' l a w → wpAnyIn F m P md ops Q' l.length listed a w
  | [], _, _, _, _, _, hB, h => ⟨by simpa [Region.seqB] using hB, h⟩
  | o :: l, k, listed, a, w, hl, hB, h => by
    have h0 : ops[k]? = some o := by simpa using (hl 0).symm
    simp only [List.length_cons, Region.seqB, Bool.and_eq_true, decide_eq_true_eq] at hB
    refine ⟨fun h1 => (by rw [hB.1] at h1; cases h1), fun i hi => ?_⟩
    rw [hB.1] at hi
    have hik : i = k := by simpa using hi
    subst hik
    have hw : wpOpIn F m P ops Q' i (wpListIn F m P ops Q' l) a w := by unfold wpOpIn; simp only [h0]; exact h
    exact wpOpIn_mono (fun a' w' h' => wpAnyIn_of_seq l (i + 1) _ a' w' (fun j => by have := hl (j + 1); simpa [Nat.add_assoc, Nat.add_comm 1 j] using this) hB.2 h') hw

theorem region_tail_round {P : Program} {l n id : Nat} {Q : Exit → Act → World → Prop} {a : Act} {w : World} {ops : List Oper} (N : Nat) (hm : P.follows .mixedOrders = true) (hB : Region.lexTailB .any ops.toArray N = true)
    (hnd : NoDefer ops.toArray)
    (h : wpStill P ops.toArray { w with drawn := w.drawn + 1 } (fun a' => wpListIn (Fence.wide.inRound l) n P ops.toArray Q (ops.drop N) a' { w with drawn := w.drawn + 1 }) (ops.take N) a) : (Code.region id ops.toArray true).wpIn (Fence.wide.inRound l) n P Q a w := by
  simp only [Region.lexTailB, Bool.and_eq_true, decide_eq_true_eq] at hB
  obtain ⟨⟨⟨⟨hsel, hn⟩, hs⟩, hc⟩, hlex⟩ := hB
  have hn' : N < ops.length := by simpa using hn
  have htl : (ops.take N).length = N := by simp; omega
  have hdl : (ops.drop N).length = ops.toArray.size - N := by simp
  have inv0 : HeadInv .any ops.toArray N (Array.replicate ops.toArray.size false) :=
    ⟨by simp, fun j oj _ hl => (by rw [getD_replicate_false] at hl; cases hl), fun t _ ht => getD_in (by simpa using ht) (getD_replicate_false _ _)⟩
  have H := wpAnyL_lex (md := .any) (g := ops.toArray.size - N) hsel hs hc hn (ops.take N) 0 _ a (fun j hj => by
    have hj' : j < N := by rw [htl] at hj; exact hj
    simp [hj']) (by simpa using htl) inv0 (by rw [htl]; exact hlex) h
  refine wpIn_region_any hm ?_
  have := wpAnyIn_of_head (m := n) (l := l) hnd (Q' := Q) (g := ops.toArray.size - N) (fun listed a' hL => by
    have := wpAnyIn_of_seq (md := .any) (F := Fence.wide.inRound l) (m := n) (Q' := Q) (ops.drop N) N listed a' { w with drawn := w.drawn + 1 } (fun j => by simp [List.getElem?_drop]) (by rw [hdl]; exact hL.1) hL.2
    rwa [hdl] at this) _ _ _ H
  rw [htl, show N + (ops.toArray.size - N) = ops.toArray.size by omega] at this
  exact this
end Go.Proofs.Ytdmkkfpbgpijjaa
namespace Go.Proofs.Ytdmkkfpbgpijjaa
open Go.RowKit Go.Shelf

attribute [local go_sem] Oper.semAt_some

set_option maxRecDepth 100000 in
set_option maxHeartbeats 2000000 in
theorem from_no_in (F : Fence) (n : Nat) (h0 : F.fn 61) (hro : F.round = none) (A : Option Addr) (cap len : Nat) (hl : 8 < len) (hl2 : len ≤ 140737488355328) (w : World) :
    CallsIn F n Try.prog 61 #[.slice A len cap] w fun e W' => e = .returned (.tuple #[.int .u64 0, .bool false]) ∧ w = W' := by
  have hd : decide ((8 : Int) < (len : Int)) = true := by simp; omega
  refine callsIn_of_wp_marks Try.func61 rfl h0 ?_ hro
  simp only [Try.ntmps61, List.size_toArray, List.length_cons, List.length_nil, Nat.reduceAdd, Nat.reduceSub, Array.replicate_succ, Array.replicate_zero, List.push_toArray, List.append_toArray, List.nil_append, List.cons_append]
  gi_wp2
  exact ⟨_, results_tmp2 rfl _ _ _, rfl, rfl⟩

theorem from_yes (A : Option Addr) (cap : Nat) (zs : List Int) (hz : isBytes zs) (hl : zs.length ≤ 8) (w : World) (hI : Ints .u8 w.heap.size w A zs) :
    Calls Try.prog 61 #[.slice A zs.length cap] w fun e W' => e = .returned (.tuple #[.int .u64 (fromN zs), .bool true]) ∧ Below w.heap.size w W' :=
  callsIn_wide.1 (from_in Fence.wide 3 trivial trivial trivial rfl (Nat.le_refl _) A cap zs hz hl w hI)
theorem from_no (A : Option Addr) (cap len : Nat) (hl : 8 < len) (hl2 : len ≤ 140737488355328) (w : World) :
    Calls Try.prog 61 #[.slice A len cap] w fun e W' => e = .returned (.tuple #[.int .u64 0, .bool false]) ∧ w = W' :=
  callsIn_wide.1 (from_no_in Fence.wide 3 trivial rfl A cap len hl hl2 w)


/-! ### Pack: its arithmetic -/
/-- A number fits its width. -/
def okV (x v : Int) : Bool := decide (0 ≤ v) && decide (v < 2 ^ x.toNat)
def pstep (u : Nat) (x v : Int) : Nat := u * 2 ^ x.toNat % 18446744073709551616 ||| v.toNat
def pF (ws vs : List Int) (L : List Nat) : Nat := L.foldl (fun u i => pstep u (ws[i]?.getD 0) (vs[i]?.getD 0)) 0
theorem pF_snoc (ws vs : List Int) (pre : List (Pl vs.length)) (x : Pl vs.length) : pF ws vs ((pre ++ [x]).map (·.1)) = pstep (pF ws vs (pre.map (·.1))) (ws[x.1]?.getD 0) (vs[x.1]?.getD 0) := by
  simp [pF]
theorem pow63 (x : Int) (h2 : x ≤ 63) : (2 : Nat) ^ x.toNat ≤ 9223372036854775808 := by
  have : (2 : Nat) ^ x.toNat ≤ 2 ^ 63 := Nat.pow_le_pow_right (by decide) (by omega)
  exact this
theorem okV_iff (x v : Int) : okV x v = true ↔ 0 ≤ v ∧ v.toNat < 2 ^ x.toNat := by
  unfold okV
  have e : ((2 : Int) ^ x.toNat) = ((2 ^ x.toNat : Nat) : Int) := by simp
  rw [e]; simp only [Bool.and_eq_true, decide_eq_true_eq]; omega
theorem pstep_lt (u : Nat) (x v : Int) (h : okV x v = true) (h2 : x ≤ 63) : pstep u x v < 18446744073709551616 := by
  have := (okV_iff x v).1 h
  have := pow63 x h2
  exact Nat.or_lt_two_pow (n := 64) (by omega) (by omega)
theorem pstep_walk (u : Nat) (x v : Int) (h : okV x v = true) (h2 : x ≤ 63) : bits .or .u64 (IntKind.u64.wrap ((u : Int) * 2 ^ x.toNat)) v = ((pstep u x v : Nat) : Int) := by
  obtain ⟨h3, h4⟩ := (okV_iff x v).1 h
  have h5 := pow63 x h2
  have e : IntKind.u64.wrap ((u : Int) * 2 ^ x.toNat) = ((u * 2 ^ x.toNat % 18446744073709551616 : Nat) : Int) := by
    rw [IntKind.wrap_u64]; simp
  have ev : v = (v.toNat : Int) := by omega
  rw [e]
  conv => lhs; rw [ev]
  rw [bits_or_u64_nat _ _ (by omega) (by omega)]
  rfl
/-- The word of numbers. -/
def packN : List Int → List Int → Nat
  | x :: ws, v :: vs => v.toNat + 2 ^ x.toNat * packN ws vs
  | _, _ => 0
theorem packN_cons (x v : Int) (ws vs : List Int) : packN (x :: ws) (v :: vs) = v.toNat + 2 ^ x.toNat * packN ws vs := rfl
def okVs : List Int → List Int → Bool
  | [], [] => true
  | x :: ws, v :: vs => okV x v && okVs ws vs
  | _, _ => false
/-- What Pack takes. -/
def packOK (ws vs : List Int) : Bool := okW ws && okVs ws vs
theorem packN_lt (ws vs : List Int) (hw : ∀ x ∈ ws, 1 ≤ x ∧ x ≤ 63) (h : okVs ws vs = true) : packN ws vs < 2 ^ (sumI ws).toNat := by
  induction ws generalizing vs with
  | nil => cases vs <;> simp [packN, sumI]
  | cons x ws ih =>
    cases vs with
    | nil => simp [okVs] at h
    | cons v vs =>
      simp only [okVs, Bool.and_eq_true] at h
      have h1 := ih vs (fun y hy => hw y (by simp [hy])) h.2
      have h2 := ((okV_iff x v).1 h.1).2
      have hx := hw x (by simp)
      have hs := sumI_pos ws (fun y hy => hw y (by simp [hy]))
      unfold packN
      rw [show (sumI (x :: ws)).toNat = x.toNat + (sumI ws).toNat by simp [sumI]; omega, Nat.pow_add]
      have h3 : 2 ^ x.toNat * (packN ws vs + 1) ≤ 2 ^ x.toNat * 2 ^ (sumI ws).toNat := Nat.mul_le_mul_left _ h1
      rw [Nat.mul_add] at h3
      omega
theorem okVs_length (ws vs : List Int) (h : okVs ws vs = true) : ws.length = vs.length := by
  induction ws generalizing vs with
  | nil => cases vs <;> simp [okVs] at h ⊢
  | cons x ws ih =>
    cases vs with
    | nil => simp [okVs] at h
    | cons v vs => simp only [okVs, Bool.and_eq_true] at h; simp [ih vs h.2]
theorem okVs_drop (ws vs : List Int) (h : okVs ws vs = true) (k : Nat) : okVs (ws.drop k) (vs.drop k) = true := by
  induction k generalizing ws vs with
  | zero => simpa using h
  | succ k ih =>
    cases ws with
    | nil => cases vs <;> simp [okVs] at h ⊢
    | cons x ws =>
      cases vs with
      | nil => simp [okVs] at h
      | cons v vs => simp only [okVs, Bool.and_eq_true] at h; simpa using ih ws vs h.2
theorem okVs_of (ws vs : List Int) (hl : ws.length = vs.length) (h : ∀ i, i < vs.length → okV (ws[i]?.getD 0) (vs[i]?.getD 0) = true) : okVs ws vs = true := by
  induction ws generalizing vs with
  | nil => cases vs with
    | nil => rfl
    | cons v vs => simp at hl
  | cons x ws ih =>
    cases vs with
    | nil => simp at hl
    | cons v vs =>
      simp only [okVs, Bool.and_eq_true]
      refine ⟨by simpa using h 0 (by simp), ih vs (by simpa using hl) (fun i hi => ?_)⟩
      simpa using h (i + 1) (by simp; omega)
theorem okVs_at (ws vs : List Int) (h : okVs ws vs = true) (i : Nat) (hi : i < vs.length) : okV (ws[i]?.getD 0) (vs[i]?.getD 0) = true := by
  induction ws generalizing vs i with
  | nil => cases vs <;> simp [okVs] at h hi
  | cons x ws ih =>
    cases vs with
    | nil => simp [okVs] at h
    | cons v vs =>
      simp only [okVs, Bool.and_eq_true] at h
      cases i with
      | zero => simpa using h.1
      | succ i => simpa using ih vs h.2 i (by simpa using hi)
theorem sumI_drop_le (ws : List Int) (h : okW ws = true) (k : Nat) : 0 ≤ sumI (ws.drop k) ∧ sumI (ws.drop k) ≤ 64 := by
  have e := sumI_append (ws.take k) (ws.drop k)
  rw [List.take_append_drop] at e
  have h1 := ((okW_iff ws).1 h).2
  have h2 := take_nonneg ws h k
  have := sumI_pos (ws.drop k) (fun x hx => ((okW_iff ws).1 h).1 x (List.mem_of_mem_drop hx))
  omega
theorem pF_down (ws vs : List Int) (ho : okW ws = true) (hv : okVs ws vs = true) : ∀ k, k ≤ vs.length → pF ws vs (downL vs.length k) = packN (ws.drop (vs.length - k)) (vs.drop (vs.length - k)) := by
  have hlen := okVs_length ws vs hv
  intro k
  induction k with
  | zero => intro _; simp [downL, pF, packN]
  | succ k ih =>
    intro hk
    have e1 : pF ws vs (downL vs.length (k + 1)) = pstep (pF ws vs (downL vs.length k)) (ws[vs.length - 1 - k]?.getD 0) (vs[vs.length - 1 - k]?.getD 0) := by
      rw [downL_succ]; unfold pF; rw [List.foldl_append]; rfl
    have hi : vs.length - (k + 1) < vs.length := by omega
    have hi' : vs.length - (k + 1) < ws.length := by omega
    have e2 : vs.drop (vs.length - (k + 1)) = vs[vs.length - (k + 1)] :: vs.drop (vs.length - k) := by
      rw [List.drop_eq_getElem_cons hi, show vs.length - (k + 1) + 1 = vs.length - k by omega]
    have e3 : ws.drop (vs.length - (k + 1)) = ws[vs.length - (k + 1)] :: ws.drop (vs.length - k) := by
      rw [List.drop_eq_getElem_cons hi', show vs.length - (k + 1) + 1 = vs.length - k by omega]
    have hov := okVs_at ws vs hv (vs.length - (k + 1)) hi
    have hd := okVs_drop ws vs hv (vs.length - k)
    have hwk := fun x hx => ((okW_iff ws).1 ho).1 x (List.mem_of_mem_drop (i := vs.length - k) hx)
    have hlt := packN_lt _ _ hwk hd
    have hs := sumI_drop_le ws ho (vs.length - (k + 1))
    have hs2 := sumI_drop_le ws ho (vs.length - k)
    rw [e3] at hs
    simp only [sumI] at hs
    have hx := okW_at ws ho (vs.length - (k + 1)) hi'
    rw [e1, ih (by omega), e2, e3, packN_cons, show vs.length - 1 - k = vs.length - (k + 1) by omega]
    simp only [List.getElem?_eq_getElem hi, List.getElem?_eq_getElem hi', Option.getD_some] at hov hx ⊢
    generalize ws[vs.length - (k + 1)] = x at *
    generalize vs[vs.length - (k + 1)] = v at *
    generalize packN (ws.drop (vs.length - k)) (vs.drop (vs.length - k)) = u at *
    have hm : u * 2 ^ x.toNat < 18446744073709551616 := by
      have a1 : (u + 1) * 2 ^ x.toNat ≤ 2 ^ (sumI (ws.drop (vs.length - k))).toNat * 2 ^ x.toNat := Nat.mul_le_mul_right _ hlt
      rw [← Nat.pow_add] at a1
      have a2 : 2 ^ ((sumI (ws.drop (vs.length - k))).toNat + x.toNat) ≤ 2 ^ 64 := Nat.pow_le_pow_right (by decide) (by omega)
      rw [Nat.add_mul] at a1
      have a3 : 0 < 2 ^ x.toNat := Nat.two_pow_pos _
      omega
    show pstep u x v = v.toNat + 2 ^ x.toNat * u
    unfold pstep
    rw [Nat.mod_eq_of_lt hm, or_disjoint _ _ _ ((okV_iff x v).1 hov).2, Nat.mul_comm]
    omega

/-- How Pack's test on a number comes out. -/
theorem test_walk (x v : Int) (h3 : 0 ≤ v) (h4 : v < 9223372036854775808) : decide (((2 ^ x.toNat - 1 : Nat) : Int) < v) = !okV x v := by
  have a := okV_iff x v
  have p : 0 < 2 ^ x.toNat := Nat.two_pow_pos _
  cases h : okV x v
  · have : ¬ (0 ≤ v ∧ v.toNat < 2 ^ x.toNat) := fun hh => by rw [a.2 hh] at h; cases h
    simp only [Bool.not_false, decide_eq_true_eq]
    omega
  · have := a.1 h
    simp only [Bool.not_true, decide_eq_false_iff_not]
    omega

def i64s (vs : List Int) : Prop := ∀ v ∈ vs, -9223372036854775808 ≤ v ∧ v < 9223372036854775808
theorem i64s_at (vs : List Int) (h : i64s vs) (i : Nat) : -9223372036854775808 ≤ vs[i]?.getD 0 ∧ vs[i]?.getD 0 < 9223372036854775808 := by
  by_cases hi : i < vs.length
  · have := h vs[i] (by simp)
    simp [hi]; omega
  · simp [hi]

def PackPost (ws vs : List Int) (w : World) (e : Ending) (W' : World) : Prop :=
  e = .returned (.tuple #[.int .u64 ((if okVs ws vs then packN ws vs else 0 : Nat) : Int), .bool (okVs ws vs)]) ∧ Below w.heap.size w W'

set_option maxRecDepth 100000 in
set_option maxHeartbeats 2000000 in
theorem pack_in (n : Nat) (hn : 4 ≤ n) (A A' : Option Addr) (cap cap' : Nat) (ws vs : List Int) (ho : okW ws = true) (hv : i64s vs) (he : ws.length = vs.length) (hl : vs.length ≤ 64) (w : World) (hI : Ints .i64 w.heap.size w A ws) (hI' : Ints .i64 w.heap.size w A' vs) :
    CallsIn Fence.wide n Try.prog 69 #[.slice A ws.length cap, .slice A' vs.length cap'] w (PackPost ws vs w) := by
  have hro : Fence.wide.round = none := rfl
  have hn1 : 1 ≤ n := by omega
  have hd : ((ws.length : Int) != (vs.length : Int)) = false := by rw [he]; simp
  have HE := Lib.hid he
  clear he
  have HRW := fun W => Lib.hid (fun h => rightWidths_any A ws cap w.heap.size W h (by have := HE.out; omega))
  rw [ho] at HRW
  have HO := Lib.hid ho
  clear ho
  refine callsIn_of_wp_marks Try.func69 rfl trivial ?_ hro
  simp only [Try.ntmps69, List.size_toArray, List.length_cons, List.length_nil, Nat.reduceAdd, Nat.reduceSub, Array.replicate_succ, Array.replicate_zero, List.push_toArray, List.append_toArray, List.nil_append, List.cons_append]
  gi_wp2_with fail
  refine ⟨trivial, ?_⟩
  refine (callsIn_wide.2 ((HRW _).out (hI.below (((Below.refl _ w).alloc (Nat.le_refl _) _ |>.alloc (by simp) _).alloc (by simp; omega) _) (Nat.le_refl _)))).mono ?_
  rintro e w' ⟨rfl, rfl⟩
  gi_wp2_with fail
  refine ⟨trivial, ?_⟩
  refine (backInts_in Fence.wide (n - 1) trivial hro _ _ _ _).mono ?_
  rintro e w' ⟨rfl, rfl⟩
  gi_wp2_with fail
  have c0 := Boxed.new w 108 (.slice A ws.length cap)
  have c1 := Boxed.new (w.alloc (.cells #[.slice A ws.length cap] 108)) 111 (.int .u64 0)
  have c2 := Boxed.new ((w.alloc (.cells #[.slice A ws.length cap] 108)).alloc (.cells #[.int .u64 0] 111)) 4 (.bool false)
  have c3 := Boxed.new (((w.alloc (.cells #[.slice A ws.length cap] 108)).alloc (.cells #[.int .u64 0] 111)).alloc (.cells #[.bool false] 4)) 111 (.int .u64 0)
  have c4 := Boxed.new ((((w.alloc (.cells #[.slice A ws.length cap] 108)).alloc (.cells #[.int .u64 0] 111)).alloc (.cells #[.bool false] 4)).alloc (.cells #[.int .u64 0] 111)) 108 (.slice A' vs.length cap')
  have hB0 : Below w.heap.size w (((((w.alloc (.cells #[.slice A ws.length cap] 108)).alloc (.cells #[.int .u64 0] 111)).alloc (.cells #[.bool false] 4)).alloc (.cells #[.int .u64 0] 111)).alloc (.cells #[.slice A' vs.length cap'] 108)) :=
    (((((Below.refl _ w).alloc (Nat.le_refl _) _).alloc (by simp) _).alloc (by simp; omega) _).alloc (by simp; omega) _).alloc (by simp; omega) _
  simp only [World.size_alloc] at c1 c2 c3 c4
  have d0 := (((c0.alloc (.cells #[.int .u64 0] 111)).alloc (.cells #[.bool false] 4)).alloc (.cells #[.int .u64 0] 111)).alloc (.cells #[.slice A' vs.length cap'] 108)
  have d1 := ((c1.alloc (.cells #[.bool false] 4)).alloc (.cells #[.int .u64 0] 111)).alloc (.cells #[.slice A' vs.length cap'] 108)
  have d2 := (c2.alloc (.cells #[.int .u64 0] 111)).alloc (.cells #[.slice A' vs.length cap'] 108)
  have d3 := c3.alloc (.cells #[.slice A' vs.length cap'] 108)
  have hsz : (((((w.alloc (.cells #[.slice A ws.length cap] 108)).alloc (.cells #[.int .u64 0] 111)).alloc (.cells #[.bool false] 4)).alloc (.cells #[.int .u64 0] 111)).alloc (.cells #[.slice A' vs.length cap'] 108)).heap.size = w.heap.size + 5 := by simp
  clear c0 c1 c2 c3
  generalize hW0 : ((((w.alloc (.cells #[.slice A ws.length cap] 108)).alloc (.cells #[.int .u64 0] 111)).alloc (.cells #[.bool false] 4)).alloc (.cells #[.int .u64 0] 111)).alloc (.cells #[.slice A' vs.length cap'] 108) = W0 at *
  clear hW0
  refine wpIn_rangeFunc_ownG hro hn1 (gf := 87) (lb := #[.pointer (some ⟨w.heap.size + 1 + 1 + 1 + 1, 0, none⟩)]) rfl trivial (enters_of Try.func87 (by kernel_rfl) rfl)
    (backInts_stops Fence.wide (n - 1) trivial hro (by omega) (w.heap.size + 1 + 1 + 1 + 1) w.heap.size cap' A' vs (by omega) W0 (by omega) (by omega) c4.cell (hI'.below hB0 (Nat.le_refl _))) KB.trans (kb_b (by omega) (by omega)) (Below.refl _ _) (fun _ => rfl)
    (fun pre W => (Boxed W w.heap.size 108 (.slice A ws.length cap) ∧ Boxed W (w.heap.size + 1) 111 (.int .u64 0) ∧ Boxed W (w.heap.size + 1 + 1) 4 (.bool false) ∧ Boxed W (w.heap.size + 1 + 1 + 1) 111 (.int .u64 ((pF ws vs (pre.map (·.1)) : Nat) : Int)) ∧ (∀ i ∈ pre, okV (ws[i.1]?.getD 0) (vs[i.1]?.getD 0) = true)) ∧ Below w.heap.size w W)
    (fun c pre W => (c = .ret ∧ Boxed W (w.heap.size + 1) 111 (.int .u64 0) ∧ Boxed W (w.heap.size + 1 + 1) 4 (.bool false) ∧ (∃ i ∈ pre, okV (ws[i.1]?.getD 0) (vs[i.1]?.getD 0) = false)) ∧ Below w.heap.size w W)
    (OwnFrom.and (OwnFrom.and (Own.from (boxed_own _ _ _) _) (OwnFrom.and (Own.from (boxed_own _ _ _) _) (OwnFrom.and (Own.from (boxed_own _ _ _) _) (OwnFrom.and (Own.from (boxed_own _ _ _) _) (ownFrom_pure _ _))))) (ownFrom_below (Nat.le_refl _) (by omega)))
    (fun c => OwnFrom.and (OwnFrom.and (ownFrom_pure _ _) (OwnFrom.and (Own.from (boxed_own _ _ _) _) (OwnFrom.and (Own.from (boxed_own _ _ _) _) (ownFrom_pure _ _)))) (ownFrom_below (Nat.le_refl _) (by omega)))
    ⟨⟨d0, d1, d2, d3, by simp⟩, hB0⟩
    (fun x => { tmps := #[.slice A ws.length cap, .slice A' vs.length cap', .pointer (some ⟨w.heap.size, 0, none⟩), undef, .pointer (some ⟨w.heap.size + 1, 0, none⟩), .pointer (some ⟨w.heap.size + 1 + 1, 0, none⟩), .pointer (some ⟨w.heap.size + 1 + 1 + 1, 0, none⟩), .int .i64 (x.1 : Int), .int .i64 (vs[x.1]?.getD 0),
      .slice A ws.length cap, .int .i64 ws.length, .slice A' vs.length cap', .int .i64 vs.length, .bool false, .bool false, .slice A ws.length cap, .bool true, .bool false, .bool false, .slice A' vs.length cap', .func (.func 87) #[] #[.pointer (some ⟨w.heap.size + 1 + 1 + 1 + 1, 0, none⟩)], .int .i64 (x.1 : Int), .int .i64 (vs[x.1]?.getD 0),
      undef, undef, undef, undef, undef, undef, undef, undef, undef, undef, undef, undef, undef, undef, undef, undef, undef, undef, undef, undef, undef, undef], defers := [] }) ?assign ?body ?done ?stop
  case assign =>
    intro l x W K hK
    generalize vs[x.1]?.getD 0 = z at *
    gi_wp2
    exact hK
  case body =>
    rintro l pre x W ⟨⟨e0, e1, e2, e3, hok⟩, hB⟩ _
    have hix : x.1 < ws.length := by have := HE.out; have := x.2; omega
    obtain ⟨b, off, rfl, hb, hc⟩ := hI (by omega)
    have hcx : W.cell? ⟨b, off + x.1, none⟩ = some (.int .i64 (ws[x.1]?.getD 0)) := (hB.cell (p := ⟨b, off + x.1, none⟩) hb).trans (hc x.1 hix)
    obtain ⟨hx1, hx2⟩ := okW_at ws HO.out x.1 hix
    obtain ⟨hv1, hv2⟩ := i64s_at vs hv x.1
    have hsn := Lib.hid (pF_snoc ws vs pre x)
    have hsw := fun h => pstep_walk (pF ws vs (pre.map (·.1))) (ws[x.1]?.getD 0) (vs[x.1]?.getD 0) h hx2
    have f0 := e0.cell
    have f1 := e1.cell
    have g1 := e1.frozen
    have f2 := e2.cell
    have g2 := e2.frozen
    have f3 := e3.cell
    have g3 := e3.frozen
    have hgood := Lib.hid (fun (h : okV (ws[x.1]?.getD 0) (vs[x.1]?.getD 0) = true) (i : Pl vs.length) (hi : i ∈ pre ++ [x]) => (show okV (ws[i.1]?.getD 0) (vs[i.1]?.getD 0) = true from (List.mem_append.1 hi).elim (hok i) (fun hh => by simp at hh; subst hh; exact h)))
    have hbad := Lib.hid (fun (h : okV (ws[x.1]?.getD 0) (vs[x.1]?.getD 0) = false) => (show ∃ i ∈ pre ++ [x], okV (ws[i.1]?.getD 0) (vs[i.1]?.getD 0) = false from ⟨x, by simp, h⟩))
    generalize ws[x.1]?.getD 0 = y at *
    generalize vs[x.1]?.getD 0 = z at *
    generalize pF ws vs (pre.map (·.1)) = u at *
    clear hc hok
    by_cases hneg : z < 0
    · have hno : okV y z = false := by rw [Bool.eq_false_iff]; intro h; have := ((okV_iff y z).1 h).1; omega
      have hb2 := Lib.hid (hbad.out hno)
      clear hno hbad hgood hsw
      gi_wp2
      refine ⟨trivial, ?_⟩
      gi_wp2
      exact ⟨((KeepsOthers.setCell W _ _).trans (KeepsOthers.setCell _ _ _)).from _, ⟨rfl, (e1.set _).other (by omega) _, (e2.other (by omega) _).set _, hb2.out⟩, (hB.setCell (p := ⟨w.heap.size + 1, 0, none⟩) (by simp) _).setCell (p := ⟨w.heap.size + 1 + 1, 0, none⟩) (by show w.heap.size ≤ w.heap.size + 1 + 1; omega) _⟩
    · have hpos : 0 ≤ z := by omega
      have htw := test_walk y z hpos hv2
      cases hno : okV y z with
      | false =>
        have hb2 := Lib.hid (hbad.out hno)
        rw [hno, Bool.not_false] at htw
        clear hno hbad hgood hsw
        gi_wp2_with fail
        refine ⟨trivial, (fun _ => by omega), ?_⟩
        refine (CallsIn.inRound l (callsIn_wide.2 (mask_any y hx1 hx2 _))).mono ?_
        rintro e w' ⟨rfl, rfl⟩
        gi_wp2
        exact ⟨((KeepsOthers.setCell W _ _).trans (KeepsOthers.setCell _ _ _)).from _, ⟨rfl, (e1.set _).other (by omega) _, (e2.other (by omega) _).set _, hb2.out⟩, (hB.setCell (p := ⟨w.heap.size + 1, 0, none⟩) (by simp) _).setCell (p := ⟨w.heap.size + 1 + 1, 0, none⟩) (by show w.heap.size ≤ w.heap.size + 1 + 1; omega) _⟩
      | true =>
        have hg2 := Lib.hid (hgood.out hno)
        have hsw' := hsw hno
        rw [hno, Bool.not_true] at htw
        clear hno hbad hgood hsw
        gi_wp2_with fail
        refine ⟨trivial, (fun _ => by omega), ?_⟩
        refine (CallsIn.inRound l (callsIn_wide.2 (mask_any y hx1 hx2 _))).mono ?_
        rintro e w' ⟨rfl, rfl⟩
        gi_wp2
        refine region_tail_round 9 (by kernel_rfl) (by kernel_rfl) (NoDefer.of rfl) ?_
        simp only [List.take_succ_cons, List.take_zero, List.drop_succ_cons, List.drop_zero]
        repeat still_step
        try refine wpStill_nil ?_
        change wpListIn _ _ _ _ _ _ _ W.drew
        gi_wp2
        exact ⟨((KeepsOthers.setCell W _ _).trans (KeepsOthers.drew _)).from _, ((KB.refl _ _ W).setCell (p := ⟨w.heap.size + 1 + 1 + 1, 0, none⟩) (by show w.heap.size ≤ w.heap.size + 1 + 1 + 1; omega) (by show w.heap.size + 1 + 1 + 1 + 1 ≠ w.heap.size + 1 + 1 + 1; omega) _).drew, ⟨e0.other (by omega) _, e1.other (by omega) _, e2.other (by omega) _, by rw [hsn.out, ← hsw']; exact e3.set _, hg2.out⟩, (hB.setCell (p := ⟨w.heap.size + 1 + 1 + 1, 0, none⟩) (by show w.heap.size ≤ w.heap.size + 1 + 1 + 1; omega) _).drew⟩
  case done =>
    rintro D ys W hD hys ⟨⟨e0, e1, e2, e3, hok⟩, hB⟩ hK
    have hall : okVs ws vs = true := by
      refine okVs_of ws vs HE.out (fun i hi => ?_)
      have hm : i ∈ downL vs.length vs.length := by
        unfold downL
        rw [List.mem_map]
        exact ⟨vs.length - 1 - i, by simp; omega, by omega⟩
      rw [← hys, List.mem_map] at hm
      obtain ⟨p, hp, rfl⟩ := hm
      exact hok p hp
    rw [hys, pF_down ws vs HO.out hall vs.length (Nat.le_refl _), Nat.sub_self, List.drop_zero, List.drop_zero] at e3
    have HA := Lib.hid hall
    clear hall hys hok
    have f3 := e3.cell
    have f1 := e1.cell
    have g1 := e1.frozen
    have f2 := e2.cell
    have g2 := e2.frozen
    generalize hpk : packN ws vs = pk at *
    have HPK := Lib.hid hpk
    clear hpk
    gi_wp2
    have k1 := (e1.set (.int .u64 (pk : Int))).other (B' := w.heap.size + 1 + 1) (by omega) (.bool true)
    have k2 := (e2.other (B' := w.heap.size + 1) (by omega) (.int .u64 (pk : Int))).set (.bool true)
    have hK1 := (KeepsOthers.setCell W ⟨w.heap.size + 1, 0, none⟩ (.int .u64 (pk : Int))).same D _ hK rfl
    have hK' := (KeepsOthers.setCell _ ⟨w.heap.size + 1 + 1, 0, none⟩ (.bool true)).same D _ hK1 rfl
    refine ⟨by simp, .inl ⟨_, _, rfl, run_takeDeferred hK', ?_⟩⟩
    have q1 := cell_kept k1.cell (grownBy_putObj' _ D (.deferred none)) (fun r e => by cases e; exact ⟨_, hK', rfl⟩)
    have q2 := cell_kept k2.cell (grownBy_putObj' _ D (.deferred none)) (fun r e => by cases e; exact ⟨_, hK', rfl⟩)
    refine ⟨.tuple #[.int .u64 (pk : Int), .bool true], ?_, ⟨by rw [HA.out, if_pos rfl, HPK.out], ((hB.setCell (p := ⟨w.heap.size + 1, 0, none⟩) (by simp) _).setCell (p := ⟨w.heap.size + 1 + 1, 0, none⟩) (by show w.heap.size ≤ w.heap.size + 1 + 1; omega) _).trans (belowK_b (w := w) (Nat.le_refl _) _ D _ _ (by omega) hK' rfl rfl)⟩⟩
    simp [results, Try.f69, go_sem, q1, q2]
  case stop =>
    rintro D c pre W hD _ ⟨⟨rfl, e1, e2, hbad⟩, hB⟩ hK
    have hno : okVs ws vs = false := by
      obtain ⟨i, _, hi⟩ := hbad
      rw [Bool.eq_false_iff]
      intro h
      have := okVs_at ws vs h i.1 i.2
      rw [this] at hi; cases hi
    have HN := Lib.hid hno
    clear hno hbad
    gi_wp2
    refine ⟨by simp, .inl ⟨_, _, rfl, run_takeDeferred hK, ?_⟩⟩
    have q1 := cell_kept e1.cell (grownBy_putObj' _ D (.deferred none)) (fun r e => by cases e; exact ⟨_, hK, rfl⟩)
    have q2 := cell_kept e2.cell (grownBy_putObj' _ D (.deferred none)) (fun r e => by cases e; exact ⟨_, hK, rfl⟩)
    refine ⟨.tuple #[.int .u64 0, .bool false], ?_, ⟨by rw [HN.out]; rfl, hB.trans (belowK_b (w := w) (Nat.le_refl _) W D _ _ (by omega) hK rfl rfl)⟩⟩
    simp [results, Try.f69, go_sem, q1, q2]
end Go.Proofs.Ytdmkkfpbgpijjaa
namespace Go.Proofs.Ytdmkkfpbgpijjaa
open Go.RowKit Go.Shelf Go.Deep

theorem okW_short (ws : List Int) (h : okW ws = true) : ws.length ≤ 64 := by
  have h2 := (okW_iff ws).1 h
  have : ∀ l : List Int, (∀ x ∈ l, 1 ≤ x ∧ x ≤ 63) → (l.length : Int) ≤ sumI l := by
    intro l
    induction l with
    | nil => intro _; simp [sumI]
    | cons x l ih => intro hl; have := ih (fun y hy => hl y (by simp [hy])); have := hl x (by simp); simp [sumI]; omega
  have := this ws h2.1
  omega

set_option maxRecDepth 100000 in
set_option maxHeartbeats 2000000 in
theorem pack_len_in (n : Nat) (A A' : Option Addr) (cap cap' l l' : Nat) (he : l ≠ l') (w : World) :
    CallsIn Fence.wide n Try.prog 69 #[.slice A l cap, .slice A' l' cap'] w fun e W' => e = .returned (.tuple #[.int .u64 0, .bool false]) ∧ Below w.heap.size w W' := by
  have hro : Fence.wide.round = none := rfl
  have hd : ((l : Int) != (l' : Int)) = true := by simp; omega
  refine callsIn_of_wp_marks Try.func69 rfl trivial ?_ hro
  simp only [Try.ntmps69, List.size_toArray, List.length_cons, List.length_nil, Nat.reduceAdd, Nat.reduceSub, Array.replicate_succ, Array.replicate_zero, List.push_toArray, List.append_toArray, List.nil_append, List.cons_append]
  gi_wp2_with fail
  refine ⟨trivial, ?_⟩
  gi_wp2
  refine ⟨.tuple #[.int .u64 0, .bool false], ?_, rfl, ?_⟩
  · simp [results, Try.f69, go_sem]
  · exact (((((Below.refl _ w).alloc (Nat.le_refl _) _).alloc (by simp) _).alloc (by simp; omega) _))

set_option maxRecDepth 100000 in
set_option maxHeartbeats 2000000 in
theorem pack_bad_in (n : Nat) (hn : 1 ≤ n) (A A' : Option Addr) (cap cap' : Nat) (ws vs : List Int) (ho : okW ws = false) (he : ws.length = vs.length) (hl : ws.length ≤ 17592186044416) (w : World) (hI : Ints .i64 w.heap.size w A ws) :
    CallsIn Fence.wide n Try.prog 69 #[.slice A ws.length cap, .slice A' vs.length cap'] w fun e W' => e = .returned (.tuple #[.int .u64 0, .bool false]) ∧ Below w.heap.size w W' := by
  have hro : Fence.wide.round = none := rfl
  have hd : ((ws.length : Int) != (vs.length : Int)) = false := by rw [he]; simp
  clear he
  have HRW := fun W => Lib.hid (fun h => rightWidths_any A ws cap w.heap.size W h hl)
  rw [ho] at HRW
  clear ho
  refine callsIn_of_wp_marks Try.func69 rfl trivial ?_ hro
  simp only [Try.ntmps69, List.size_toArray, List.length_cons, List.length_nil, Nat.reduceAdd, Nat.reduceSub, Array.replicate_succ, Array.replicate_zero, List.push_toArray, List.append_toArray, List.nil_append, List.cons_append]
  gi_wp2_with fail
  refine ⟨trivial, ?_⟩
  refine (callsIn_wide.2 ((HRW _).out (hI.below (((Below.refl _ w).alloc (Nat.le_refl _) _ |>.alloc (by simp) _).alloc (by simp; omega) _) (Nat.le_refl _)))).mono ?_
  rintro e w' ⟨rfl, rfl⟩
  gi_wp2
  refine ⟨.tuple #[.int .u64 0, .bool false], ?_, rfl, ?_⟩
  · simp [results, Try.f69, go_sem]
  · exact (((((Below.refl _ w).alloc (Nat.le_refl _) _).alloc (by simp) _).alloc (by simp; omega) _))

/-- word.Pack, at every two lists. -/
theorem pack_any (A A' : Option Addr) (cap cap' : Nat) (ws vs : List Int) (hv : i64s vs) (hl : ws.length ≤ 17592186044416) (w : World) (hI : Ints .i64 w.heap.size w A ws) (hI' : Ints .i64 w.heap.size w A' vs) :
    Calls Try.prog 69 #[.slice A ws.length cap, .slice A' vs.length cap'] w fun e W' => e = .returned (.tuple #[.int .u64 ((if packOK ws vs then packN ws vs else 0 : Nat) : Int), .bool (packOK ws vs)]) ∧ Below w.heap.size w W' := by
  unfold packOK
  by_cases he : ws.length = vs.length
  · cases ho : okW ws with
    | false =>
      refine callsIn_wide.1 ((pack_bad_in 4 (by omega) A A' cap cap' ws vs ho he hl w hI).mono ?_)
      rintro e w' ⟨rfl, hb⟩
      exact ⟨rfl, hb⟩
    | true =>
      have hs := okW_short ws ho
      refine callsIn_wide.1 ((pack_in 4 (by omega) A A' cap cap' ws vs ho hv he (by omega) w hI hI').mono ?_)
      rintro e w' ⟨rfl, hb⟩
      rw [Bool.true_and]
      exact ⟨rfl, hb⟩
  · have hno : okVs ws vs = false := by
      rw [Bool.eq_false_iff]; intro h; exact he (okVs_length ws vs h)
    refine callsIn_wide.1 ((pack_len_in 4 A A' cap cap' ws.length vs.length he w).mono ?_)
    rintro e w' ⟨rfl, hb⟩
    rw [hno, Bool.and_false]
    exact ⟨rfl, hb⟩

end Go.Proofs.Ytdmkkfpbgpijjaa
namespace Go.Proofs.Ytdmkkfpbgpijjaa
open Go.RowKit Go.Deep Go.Shelf

/-- A word's lowest n bytes. -/
def bytesL (u n : Nat) : List Int := (List.range n).map (fun j => ((byteAt u j : Nat) : Int))
theorem bytesL_length (u n : Nat) : (bytesL u n).length = n := by simp [bytesL]
theorem byteAt_lt (u j : Nat) : byteAt u j < 256 := by unfold byteAt; omega
theorem bytesL_bytes (u n : Nat) : isBytes (bytesL u n) := by
  intro z hz
  simp only [bytesL, List.mem_map] at hz
  obtain ⟨j, _, rfl⟩ := hz
  have := byteAt_lt u j
  omega
theorem bytesL_at (u n j : Nat) (h : j < n) : (bytesL u n)[j]?.getD 0 = ((byteAt u j : Nat) : Int) := by simp [bytesL, h]
theorem byteAt_succ (u j : Nat) : byteAt u (j + 1) = byteAt (u / 256) j := by
  unfold byteAt
  rw [Nat.div_div_eq_div_mul, show (2 : Nat) ^ (8 * (j + 1)) = 256 * 2 ^ (8 * j) by rw [show 8 * (j + 1) = 8 * j + 8 by omega, Nat.pow_add, Nat.mul_comm]]
theorem from_bytes (n : Nat) : ∀ u, u / 2 ^ (8 * n) = 0 → fromN (bytesL u n) = u := by
  induction n with
  | zero => intro u h; simp at h; subst h; rfl
  | succ n ih =>
    intro u h
    have e : bytesL u (n + 1) = ((byteAt u 0 : Nat) : Int) :: bytesL (u / 256) n := by
      unfold bytesL
      rw [List.range_succ_eq_map, List.map_cons, List.map_map]
      congr 1
      apply List.map_congr_left
      intro j _
      simp [byteAt_succ]
    have h2 : u / 256 / 2 ^ (8 * n) = 0 := by
      rw [Nat.div_div_eq_div_mul, show 256 * 2 ^ (8 * n) = (2 : Nat) ^ (8 * (n + 1)) by rw [show 8 * (n + 1) = 8 * n + 8 by omega, Nat.pow_add, Nat.mul_comm]]
      exact h
    rw [e, fromN_cons, ih _ h2]
    have : byteAt u 0 = u % 256 := by simp [byteAt]
    omega
theorem bytes_take (u n : Nat) : (bytesL u (n + 1)).take n = bytesL u n := by
  unfold bytesL
  rw [← List.map_take, List.take_range, Nat.min_eq_left (by omega)]

/-- What Bytes answers where there is enough room. -/
theorem bytes_list (u : Nat) (hu : u < 18446744073709551616) (n : Nat) (h : n ≤ 8) (hz : u / 2 ^ (8 * n) = 0) (w : World) :
    Calls Try.prog 59 #[.int .u64 u, .int .i64 n] w fun e w' => e = .returned (.slice (some ⟨w.heap.size, 0, none⟩) n n) ∧ Ints .u8 w'.heap.size w' (some ⟨w.heap.size, 0, none⟩) (bytesL u n) ∧ (∀ j, j < n → w'.cell? ⟨w.heap.size, j, none⟩ = some (.int .u8 (byteAt u j))) ∧ w.heap.size < w'.heap.size ∧ Below w.heap.size w w' := by
  refine (bytes_yes u hu n h hz w).mono ?_
  rintro e w' ⟨rfl, hr, hb⟩
  exact ⟨rfl, ints_row hr _ (bytesL_length u n) (fun j hj => by rw [bytesL_at u n j hj]), fun j hj => hr.cell hj, hr.lt, hb⟩

theorem from_back (u n : Nat) (h8 : n ≤ 8) (hz : u / 2 ^ (8 * n) = 0) (W : World) (A : Option Addr) (c : Nat) (h : Ints .u8 W.heap.size W A (bytesL u n)) :
    Calls Try.prog 61 #[.slice A n c] W fun e w' => e = .returned (.tuple #[.int .u64 u, .bool true]) ∧ Below W.heap.size W w' := by
  have := from_yes A c (bytesL u n) (bytesL_bytes u n) (by rw [bytesL_length]; exact h8) W h
  rwa [bytesL_length, from_bytes n u hz] at this

/-! ### Numbers packed and unpacked -/
def unpackR : List Int → Nat → List Int
  | [], _ => []
  | x :: ws, u => ((u % 2 ^ x.toNat : Nat) : Int) :: unpackR ws (u / 2 ^ x.toNat)
theorem unpackL_length (ws : List Int) (u : Nat) : (unpackL ws u).length = ws.length := by simp [unpackL]
theorem offN_cons (x : Int) (ws : List Int) (hx : 1 ≤ x) (hw : ∀ y ∈ ws, 1 ≤ y ∧ y ≤ 63) (k : Nat) : offN (x :: ws) (k + 1) = x.toNat + offN ws k := by
  unfold offN
  rw [List.take_succ_cons]
  simp only [sumI]
  have := sumI_pos (ws.take k) (fun y hy => hw y (List.mem_of_mem_take hy))
  omega
theorem unpackL_eq (ws : List Int) (hw : ∀ y ∈ ws, 1 ≤ y ∧ y ≤ 63) : ∀ u, unpackL ws u = unpackR ws u := by
  induction ws with
  | nil => intro u; rfl
  | cons x ws ih =>
    intro u
    have hx := hw x (by simp)
    have hw' : ∀ y ∈ ws, 1 ≤ y ∧ y ≤ 63 := fun y hy => hw y (by simp [hy])
    unfold unpackL unpackR
    rw [← ih hw' (u / 2 ^ x.toNat), List.length_cons, List.range_succ_eq_map, List.map_cons, List.map_map]
    congr 1
    · simp [fieldAt, offN, sumI]
    · unfold unpackL
      apply List.map_congr_left
      intro k _
      simp only [Function.comp, Nat.succ_eq_add_one, fieldAt, List.getElem?_cons_succ]
      rw [offN_cons x ws hx.1 hw' k, Nat.pow_add, Nat.div_div_eq_div_mul]
theorem unpack_ok (ws : List Int) (hw : ∀ y ∈ ws, 1 ≤ y ∧ y ≤ 63) : ∀ u, okVs ws (unpackR ws u) = true := by
  induction ws with
  | nil => intro u; rfl
  | cons x ws ih =>
    intro u
    simp only [unpackR, okVs, Bool.and_eq_true]
    refine ⟨(okV_iff _ _).2 ⟨by omega, ?_⟩, ih (fun y hy => hw y (by simp [hy])) _⟩
    rw [Int.toNat_natCast]
    exact Nat.mod_lt _ (Nat.two_pow_pos _)
theorem pack_unpack (ws : List Int) (hw : ∀ y ∈ ws, 1 ≤ y ∧ y ≤ 63) : ∀ u, packN ws (unpackR ws u) = u % 2 ^ (sumI ws).toNat := by
  induction ws with
  | nil => intro u; simp [packN, sumI, Nat.mod_one]
  | cons x ws ih =>
    intro u
    have hx := hw x (by simp)
    have hw' : ∀ y ∈ ws, 1 ≤ y ∧ y ≤ 63 := fun y hy => hw y (by simp [hy])
    have hs := sumI_pos ws hw'
    simp only [unpackR]
    rw [packN_cons, ih hw', Int.toNat_natCast, show (sumI (x :: ws)).toNat = x.toNat + (sumI ws).toNat by simp only [sumI]; omega, Nat.pow_add, Nat.mod_mul]
theorem unpack_pack (ws : List Int) : ∀ vs, okVs ws vs = true → unpackR ws (packN ws vs) = vs := by
  induction ws with
  | nil => intro vs h; cases vs <;> simp [okVs] at h ⊢ <;> rfl
  | cons x ws ih =>
    intro vs h
    cases vs with
    | nil => simp [okVs] at h
    | cons v vs =>
      simp only [okVs, Bool.and_eq_true] at h
      obtain ⟨h1, h2⟩ := (okV_iff x v).1 h.1
      have p : 0 < 2 ^ x.toNat := Nat.two_pow_pos _
      rw [packN_cons]
      simp only [unpackR]
      rw [Nat.add_mul_mod_self_left, Nat.mod_eq_of_lt h2, Nat.add_mul_div_left _ _ p, Nat.div_eq_of_lt h2, Nat.zero_add, ih vs h.2]
      congr 1
      omega
theorem offN_all (ws : List Int) : offN ws ws.length = (sumI ws).toNat := by simp [offN]

/-- What Unpack takes. -/
def unpackOK (ws : List Int) (u : Nat) : Bool := okW ws && decide (u / 2 ^ offN ws ws.length = 0)
theorem pack_then (ws vs : List Int) (h : packOK ws vs = true) : unpackOK ws (packN ws vs) = true ∧ unpackL ws (packN ws vs) = vs ∧ packN ws vs < 18446744073709551616 := by
  simp only [packOK, Bool.and_eq_true] at h
  have hw := (okW_iff ws).1 h.1
  have hlt := packN_lt ws vs hw.1 h.2
  have h64 : 2 ^ (sumI ws).toNat ≤ 2 ^ 64 := Nat.pow_le_pow_right (by decide) (by omega)
  refine ⟨?_, ?_, by omega⟩
  · simp only [unpackOK, Bool.and_eq_true, decide_eq_true_eq]
    exact ⟨h.1, by rw [offN_all]; exact Nat.div_eq_of_lt hlt⟩
  · rw [unpackL_eq ws hw.1, unpack_pack ws vs h.2]
theorem unpack_then (ws : List Int) (u : Nat) (h : unpackOK ws u = true) : packOK ws (unpackL ws u) = true ∧ packN ws (unpackL ws u) = u := by
  simp only [unpackOK, Bool.and_eq_true, decide_eq_true_eq] at h
  have hw := (okW_iff ws).1 h.1
  rw [unpackL_eq ws hw.1]
  refine ⟨by simp only [packOK, h.1, unpack_ok ws hw.1 u, Bool.and_self], ?_⟩
  rw [pack_unpack ws hw.1]
  have h2 := h.2
  rw [offN_all] at h2
  have := Nat.div_add_mod u (2 ^ (sumI ws).toNat)
  rw [h2] at this
  omega
theorem unpackL_i64 (ws : List Int) (u : Nat) (h : okW ws = true) : i64s (unpackL ws u) := by
  intro v hv
  simp only [unpackL, List.mem_map, List.mem_range] at hv
  obtain ⟨k, hk, rfl⟩ := hv
  have := okW_at ws h k hk
  have := mod63 (u / 2 ^ offN ws k) (ws[k]?.getD 0).toNat (by omega)
  rw [fieldAt_eq]
  omega
theorem unpackL_at (ws : List Int) (u j : Nat) (h : j < ws.length) : (unpackL ws u)[j]?.getD 0 = ((fieldAt ws u j : Nat) : Int) := by simp [unpackL, h]

def UnpackYes (ws : List Int) (u : Nat) (w : World) (e : Ending) (w' : World) : Prop :=
  e = .returned (.tuple #[.slice (some ⟨w.heap.size, 0, none⟩) ws.length ws.length, .bool true]) ∧ Ints .i64 w'.heap.size w' (some ⟨w.heap.size, 0, none⟩) (unpackL ws u) ∧ Below w.heap.size w w'

theorem unpack_yes (A : Option Addr) (ws : List Int) (c u : Nat) (hu : u < 18446744073709551616) (w : World) (h : Ints .i64 w.heap.size w A ws) (ho : unpackOK ws u = true) :
    Calls Try.prog 84 #[.slice A ws.length c, .int .u64 u] w (UnpackYes ws u w) := by
  simp only [unpackOK, Bool.and_eq_true, decide_eq_true_eq] at ho
  refine (unpack_good A ws c u hu w h (okW_short ws ho.1) ho.1).mono ?_
  rintro e w' (⟨_, rfl, hr, hb⟩ | ⟨hn, _⟩)
  · exact ⟨rfl, ints_row hr _ (unpackL_length ws u) (fun j hj => by rw [unpackL_at ws u j hj]), hb⟩
  · exact absurd ho.2 hn
theorem unpack_no (A : Option Addr) (ws : List Int) (c u : Nat) (hu : u < 18446744073709551616) (w : World) (h : Ints .i64 w.heap.size w A ws) (hl : ws.length ≤ 17592186044416) (ho : unpackOK ws u = false) :
    Calls Try.prog 84 #[.slice A ws.length c, .int .u64 u] w fun e w' => e = .returned (.tuple #[.slice none 0 0, .bool false]) ∧ Below w.heap.size w w' := by
  cases hw : okW ws with
  | false =>
    refine (unpack_bad A ws c w.heap.size u w h hl hw).mono ?_
    rintro e w' ⟨rfl, rfl⟩
    exact ⟨rfl, Below.refl _ _⟩
  | true =>
    simp only [unpackOK, hw, Bool.true_and, decide_eq_false_iff_not] at ho
    refine (unpack_good A ws c u hu w h (okW_short ws hw) hw).mono ?_
    rintro e w' (⟨hz, _⟩ | ⟨_, rfl, hb⟩)
    · exact absurd hz ho
    · exact ⟨rfl, hb⟩

theorem pack_gives (ws vs : List Int) (hv : i64s vs) (hl : ws.length ≤ 17592186044416) (x : Nat) (b : Bool) (hx : (if packOK ws vs then packN ws vs else 0) = x) (hb : packOK ws vs = b) (A A' : Option Addr) (cap cap' l l' : Nat) (hll : ws.length = l) (hll' : vs.length = l') (w : World) (hI : Ints .i64 w.heap.size w A ws) (hI' : Ints .i64 w.heap.size w A' vs) :
    Calls Try.prog 69 #[.slice A l cap, .slice A' l' cap'] w fun e W' => e = .returned (.tuple #[.int .u64 x, .bool b]) ∧ Below w.heap.size w W' := by
  subst hx hb hll hll'
  exact pack_any A A' cap cap' ws vs hv hl w hI hI'
theorem zig_nonneg (n : Int) : 0 ≤ zigI n := by unfold zigI; split <;> omega
theorem zig_lt (n : Int) (h1 : -9223372036854775808 ≤ n) (h2 : n ≤ 9223372036854775807) : zigI n < 18446744073709551616 := by unfold zigI; split <;> omega
theorem zag_bounds (u : Nat) (h : u < 18446744073709551616) : -9223372036854775808 ≤ zagI u ∧ zagI u < 9223372036854775808 := by unfold zagI; split <;> omega
end Go.Proofs.Ytdmkkfpbgpijjaa
namespace Go.Proofs.Ytdmkkfpbgpijjaa
open Go.RowKit Go.Deep

/-- A record of a log. -/
structure RecD where
  kind : Int
  tx : Int
  mask : Nat
  k0 : Int
  k1 : Int
  k2 : Int
  k3 : Int
  oT : Bool
  oN : Int
  nT : Bool
  nN : Int
def recC (r : RecD) : List Value := [.int .i64 r.kind, .int .i64 r.tx, .int .u16 r.mask, .int .u8 r.k0, .int .u8 r.k1, .int .u8 r.k2, .int .u8 r.k3, .bool r.oT, .int .i64 r.oN, .bool r.nT, .int .i64 r.nN]
def recV (r : RecD) : Value := .agg (recC r).toArray
theorem recV_eq (r : RecD) : recV r = .agg #[.int .i64 r.kind, .int .i64 r.tx, .int .u16 r.mask, .int .u8 r.k0, .int .u8 r.k1, .int .u8 r.k2, .int .u8 r.k3, .bool r.oT, .int .i64 r.oN, .bool r.nT, .int .i64 r.nN] := rfl
def zeroR : RecD := ⟨0, 0, 0, 0, 0, 0, 0, false, 0, false, 0⟩
def eqR (r s : RecD) : Bool := r.kind == s.kind && (r.tx == s.tx && (((r.mask : Int) == (s.mask : Int)) && ((r.k0 == s.k0 && (r.k1 == s.k1 && (r.k2 == s.k2 && r.k3 == s.k3))) && ((r.oT == s.oT && r.oN == s.oN) && (r.nT == s.nT && r.nN == s.nN)))))
theorem eqR_iff (r s : RecD) : eqR r s = true ↔ r = s := by
  cases r; cases s
  simp [eqR, RecD.mk.injEq, and_assoc, Int.natCast_inj]
theorem recV_inj {r s : RecD} (h : recV r = recV s) : r = s := by
  cases r; cases s
  simp [recV, recC] at h
  simp [h, Int.natCast_inj.1 h.2.2.1]

theorem sz_u8 (w : World) : (sizeOf 5).run Try.prog w = .ok 1 w := by
  have e : Try.t5.size = 1 := rfl
  simp [sizeOf, e]
theorem run_eqKey (d : Nat) (a0 a1 a2 a3 b0 b1 b2 b3 : Int) (w : World) :
    (Op.equalIn (d + 2) 44 (.agg #[.int .u8 a0, .int .u8 a1, .int .u8 a2, .int .u8 a3]) (.agg #[.int .u8 b0, .int .u8 b1, .int .u8 b2, .int .u8 b3])).run Try.prog w = .ok (a0 == b0 && (a1 == b1 && (a2 == b2 && a3 == b3))) w := by
  have he := Try.underlying5
  have hp : ∀ (x0 x1 x2 x3 : Value) (i : Nat) (hi : i < 4) (w : World), (part 5 #[x0, x1, x2, x3] i).run Try.prog w = .ok (#[x0, x1, x2, x3].getD i undef) w := by
    intro x0 x1 x2 x3 i hi w
    match i, hi with
    | 0, _ => simp [part, isAgg, run_underlying he]
    | 1, _ => simp [part, isAgg, run_underlying he]
    | 2, _ => simp [part, isAgg, run_underlying he]
    | 3, _ => simp [part, isAgg, run_underlying he]
  rw [Op.equalIn]
  simp only [Sem.run_bind, run_underlying Try.underlying44, Result.andThen_ok, sz_u8, Std.Legacy.Range.forIn_eq_forIn_range', Std.Legacy.Range.size, Nat.sub_zero, Nat.add_sub_cancel, Nat.div_one]
  rw [show List.range' 0 4 1 = [0, 1, 2, 3] from rfl]
  have q : ∀ (a b : Int) (w : World), (Op.equalIn (d + 1) 5 (.int .u8 a) (.int .u8 b)).run Try.prog w = .ok (a == b) w := fun a b w => run_equalIn_int w d 5 .u8 .u8 a b he
  cases h0 : (a0 == b0) <;> cases h1 : (a1 == b1) <;> cases h2 : (a2 == b2) <;> cases h3 : (a3 == b3) <;>
    simp [List.forIn_cons, Sem.run_bind, hp _ _ _ _ 0 (by omega), hp _ _ _ _ 1 (by omega), hp _ _ _ _ 2 (by omega), hp _ _ _ _ 3 (by omega), Result.andThen_ok, q, h0, h1, h2, h3]
set_option maxRecDepth 100000 in
theorem run_eqVal (d : Nat) (a b : Bool) (m n : Int) (w : World) :
    (Op.equalIn (d + 2) 46 (.agg #[.bool a, .int .i64 m]) (.agg #[.bool b, .int .i64 n])).run Try.prog w = .ok (a == b && m == n) w := by
  rw [run_equalIn_agg _ _ _ _ _ Try.underlying46 (by kernel_rfl)]
  cases h0 : (a == b) <;> cases h1 : (m == n) <;> simp [Program.fieldsOf, Try.underlying46, Op.eqFields, part, isAgg, run_underlying Try.underlying3, run_underlying Try.underlying4, run_equalIn_int _ _ 3 .i64 .i64 _ _ Try.underlying3, run_equalIn_bool' _ _ 4 _ _ Try.underlying4, h0, h1, Sem.run_bind]
def recA (r : RecD) : Array Value := #[.int .i64 r.kind, .int .i64 r.tx, .int .u16 r.mask, .int .u8 r.k0, .int .u8 r.k1, .int .u8 r.k2, .int .u8 r.k3, .bool r.oT, .int .i64 r.oN, .bool r.nT, .int .i64 r.nN]
theorem part_kind (r : RecD) (w : World) : (part 3 (recA r) 0).run Try.prog w = .ok (.int .i64 r.kind) w := by simp [part, isAgg, run_underlying Try.underlying3, recA]
theorem part_tx (r : RecD) (w : World) : (part 3 (recA r) 1).run Try.prog w = .ok (.int .i64 r.tx) w := by simp [part, isAgg, run_underlying Try.underlying3, recA]
theorem part_mask (r : RecD) (w : World) : (part 42 (recA r) 2).run Try.prog w = .ok (.int .u16 r.mask) w := by simp [part, isAgg, run_underlying Try.underlying42, recA]
theorem part_key (r : RecD) (w : World) : (part 44 (recA r) 3).run Try.prog w = .ok (.agg #[.int .u8 r.k0, .int .u8 r.k1, .int .u8 r.k2, .int .u8 r.k3]) w := by
  simp [part, isAgg, run_underlying Try.underlying44, recA]
theorem part_old (r : RecD) (w : World) : (part 46 (recA r) 7).run Try.prog w = .ok (.agg #[.bool r.oT, .int .i64 r.oN]) w := by
  simp [part, isAgg, run_underlying Try.underlying46, recA]
theorem part_new (r : RecD) (w : World) : (part 46 (recA r) 9).run Try.prog w = .ok (.agg #[.bool r.nT, .int .i64 r.nN]) w := by
  simp [part, isAgg, run_underlying Try.underlying46, recA]
set_option maxRecDepth 100000 in
theorem run_eqR (r s : RecD) (w : World) : (binOp .eql 48 (recV r) (recV s)).run Try.prog w = .ok (.bool (eqR r s)) w := by
  show (binOp .eql 48 (.agg (recA r)) (.agg (recA s))).run Try.prog w = _
  rw [run_eql_struct, run_equalIn_agg _ _ _ _ _ Try.underlying48 (by kernel_rfl)]
  unfold eqR
  have q1 : ∀ (a b : Int) (w : World), (Op.equalIn 9999 3 (.int .i64 a) (.int .i64 b)).run Try.prog w = .ok (a == b) w := fun a b w => run_equalIn_int w 9998 3 .i64 .i64 a b Try.underlying3
  have q2 : ∀ (a b : Int) (w : World), (Op.equalIn 9999 42 (.int .u16 a) (.int .u16 b)).run Try.prog w = .ok (a == b) w := fun a b w => run_equalIn_int w 9998 42 .u16 .u16 a b Try.underlying42
  have q3 := fun a0 a1 a2 a3 b0 b1 b2 b3 w => run_eqKey 9997 a0 a1 a2 a3 b0 b1 b2 b3 w
  have q4 := fun a b m n w => run_eqVal 9997 a b m n w
  simp only [Program.fieldsOf, Try.underlying48, Op.eqFields]
  generalize hk : (r.k0 == s.k0 && (r.k1 == s.k1 && (r.k2 == s.k2 && r.k3 == s.k3))) = b3
  generalize ho : (r.oT == s.oT && r.oN == s.oN) = b4
  generalize hn : (r.nT == s.nT && r.nN == s.nN) = b5
  have e3 : ∀ w, (Op.equalIn 9999 44 (.agg #[.int .u8 r.k0, .int .u8 r.k1, .int .u8 r.k2, .int .u8 r.k3]) (.agg #[.int .u8 s.k0, .int .u8 s.k1, .int .u8 s.k2, .int .u8 s.k3])).run Try.prog w = .ok b3 w := fun w => by rw [q3, hk]
  have e4 : ∀ w, (Op.equalIn 9999 46 (.agg #[.bool r.oT, .int .i64 r.oN]) (.agg #[.bool s.oT, .int .i64 s.oN])).run Try.prog w = .ok b4 w := fun w => by rw [q4, ho]
  have e5 : ∀ w, (Op.equalIn 9999 46 (.agg #[.bool r.nT, .int .i64 r.nN]) (.agg #[.bool s.nT, .int .i64 s.nN])).run Try.prog w = .ok b5 w := fun w => by rw [q4, hn]
  generalize h0 : (r.kind == s.kind) = b0
  generalize h1 : (r.tx == s.tx) = b1
  generalize h2 : ((r.mask : Int) == (s.mask : Int)) = b2
  cases b0 <;> simp [part_kind, part_tx, part_mask, part_key, part_old, part_new, q1, q2, e3, e4, e5, h0, h1, h2]
  cases b1 <;> simp
  cases b2 <;> simp
  cases b3 <;> simp
  cases b4 <;> simp
  cases b5 <;> simp
set_option maxRecDepth 100000 in
/-- Two records compared, in a region. -/
theorem wpList_eqR {ops : Array Oper} {rest : List Oper} {o : Oper} {a : Act} {Q : Exit → Act → World → Prop} {W : World} (hw : Region.wanted o (yielded ops a.tmps) = true) (x y : Operand) (ho : o.op = .binOp .eql 48 x y 48)
    (r s : RecD) (hx : a.eval x = recV r) (hy : a.eval y = recV s) (b : Bool) (hb : eqR r s = b)
    (h : wpList Try.prog ops Q rest (a.put o.dst (.bool b)) W) : wpList Try.prog ops Q (o :: rest) a W := by
  refine BigFrame.wpList_want hw fun K hK => ?_
  have hrun := run_eqR r s W
  have hg : (eqGuard .eql 48 x y (recV r) (recV s)).run Try.prog W = .ok () W := run_eqGuard_agg W .eql 48 x y _ _ (by kernel_rfl)
  unfold Oper.wp
  simp [execOp, ho, hx, hy, hrun, hg, hb, Result.andThen]
  exact hK _ _ h
theorem bcell {W w1 : World} (hb : Below W.heap.size W w1) : (∀ b o, b < W.heap.size → w1.cell? ⟨b, o, none⟩ = W.cell? ⟨b, o, none⟩) ∧ (∀ b o, b < W.heap.size → w1.frozen? ⟨b, o, none⟩ = W.frozen? ⟨b, o, none⟩) :=
  ⟨fun b o h => hb.cell (p := ⟨b, o, none⟩) h, fun b o h => hb.frozen (p := ⟨b, o, none⟩) h⟩
end Go.Proofs.Ytdmkkfpbgpijjaa
namespace Go.Proofs.Ytdmkkfpbgpijjaa
open Go.RowKit Go.Deep

def okTx (t : Int) : Bool := decide (1 ≤ t) && decide (t ≤ 1048576)
def okVal (t : Bool) (n : Int) : Bool := t || n == 0
def rightB (r : RecD) : Bool :=
  if r.kind = 1 then okTx r.tx && (((r.mask : Int) == 0) && (okVal r.oT r.oN && okVal r.nT r.nN))
  else if r.kind = 2 then okTx r.tx && (((r.mask : Int) != 0) && eqR r ⟨r.kind, r.tx, r.mask, 0, 0, 0, 0, false, 0, false, 0⟩)
  else if r.kind = 3 ∨ r.kind = 4 ∨ r.kind = 5 ∨ r.kind = 6 then okTx r.tx && eqR r ⟨r.kind, r.tx, 0, 0, 0, 0, 0, false, 0, false, 0⟩
  else if r.kind = 7 then r.nT && eqR r ⟨r.kind, 0, 0, r.k0, r.k1, r.k2, r.k3, false, 0, r.nT, r.nN⟩
  else if r.kind = 8 then decide ((r.mask : Int) ≤ 64) && eqR r ⟨r.kind, 0, r.mask, 0, 0, 0, 0, false, 0, false, 0⟩
  else false

set_option maxRecDepth 100000 in
set_option maxHeartbeats 400000 in
theorem rightTx_any (t : Int) (b : Bool) (hb : okTx t = b) (w : World) : Calls Try.prog 67 #[.int .i64 t] w fun e w' => e = .returned (.bool b) ∧ w = w' := by
  subst hb
  by_cases h1 : 1 ≤ t
  · go_enter Try.func67, Try.ntmps67
    go_wp2
    go_ret
    exact ⟨by simp [okTx, h1], rfl⟩
  · go_enter Try.func67, Try.ntmps67
    go_wp2
    go_ret
    exact ⟨by simp [okTx, show ¬ 1 ≤ t by omega], rfl⟩
set_option maxRecDepth 100000 in
set_option maxHeartbeats 400000 in
theorem rightVal_any (t : Bool) (n : Int) (b : Bool) (hb : okVal t n = b) (w : World) : Calls Try.prog 68 #[.agg #[.bool t, .int .i64 n]] w fun e w' => e = .returned (.bool b) ∧ Below w.heap.size w w' := by
  subst hb
  cases t
  · go_enter Try.func68, Try.ntmps68
    go_wp2
    go_ret
    exact ⟨rfl, (Below.refl _ _).alloc (Nat.le_refl _) _⟩
  · go_enter Try.func68, Try.ntmps68
    go_wp2
    go_ret
    exact ⟨rfl, (Below.refl _ _).alloc (Nat.le_refl _) _⟩

set_option maxRecDepth 100000 in
set_option maxHeartbeats 1000000 in
theorem right_2 (r : RecD) (hk : r.kind = 2) (b : Bool) (hb : rightB r = b) (w : World) : Calls Try.prog 56 #[recV r] w fun e w' => e = .returned (.bool b) ∧ Below w.heap.size w w' := by
  obtain ⟨kind, tx, mask, k0, k1, k2, k3, oT, oN, nT, nN⟩ := r
  dsimp only at hk
  subst hk
  simp [rightB] at hb
  rw [recV_eq]
  dsimp only
  cases h1 : okTx tx <;> rw [h1] at hb
  · simp at hb; subst hb
    go_enter Try.func56, Try.ntmps56
    go_wp2_with (first | (go_at_call 67; refine (rightTx_any _ _ h1 _).mono ?_; rintro e w' ⟨rfl, rfl⟩))
    go_ret
    exact ⟨rfl, (Below.refl _ _).alloc (Nat.le_refl _) _⟩
  · cases h2 : ((mask : Int) != 0) <;> rw [h2] at hb
    · simp at hb; subst hb
      go_enter Try.func56, Try.ntmps56
      go_wp2_with (first | (go_at_call 67; refine (rightTx_any _ _ h1 _).mono ?_; rintro e w' ⟨rfl, rfl⟩))
      go_ret
      exact ⟨rfl, (Below.refl _ _).alloc (Nat.le_refl _) _⟩
    · cases h3 : eqR ⟨2, tx, mask, k0, k1, k2, k3, oT, oN, nT, nN⟩ ⟨2, tx, mask, 0, 0, 0, 0, false, 0, false, 0⟩ <;> rw [h3] at hb <;> simp at hb <;> subst hb
      all_goals
        go_enter Try.func56, Try.ntmps56
        go_wp2_with (first | (go_at_call 67; refine (rightTx_any _ _ h1 _).mono ?_; rintro e w' ⟨rfl, rfl⟩) | refine wpList_eqR (by rfl) _ _ rfl ⟨2, tx, mask, k0, k1, k2, k3, oT, oN, nT, nN⟩ ⟨2, tx, mask, 0, 0, 0, 0, false, 0, false, 0⟩ (by rfl) (by rfl) _ h3 ?_)
        go_ret
        exact ⟨rfl, (Below.refl _ _).alloc (Nat.le_refl _) _⟩
set_option maxRecDepth 100000 in
set_option maxHeartbeats 1000000 in
theorem right_3 (r : RecD) (hk : r.kind = 3) (b : Bool) (hb : rightB r = b) (w : World) : Calls Try.prog 56 #[recV r] w fun e w' => e = .returned (.bool b) ∧ Below w.heap.size w w' := by
  obtain ⟨kind, tx, mask, k0, k1, k2, k3, oT, oN, nT, nN⟩ := r
  dsimp only at hk
  subst hk
  simp [rightB] at hb
  rw [recV_eq]
  dsimp only
  cases h1 : okTx tx <;> rw [h1] at hb
  · simp at hb; subst hb
    go_enter Try.func56, Try.ntmps56
    go_wp2_with (first | (go_at_call 67; refine (rightTx_any _ _ h1 _).mono ?_; rintro e w' ⟨rfl, rfl⟩))
    go_ret
    exact ⟨rfl, (Below.refl _ _).alloc (Nat.le_refl _) _⟩
  · cases h3 : eqR ⟨3, tx, mask, k0, k1, k2, k3, oT, oN, nT, nN⟩ ⟨3, tx, 0, 0, 0, 0, 0, false, 0, false, 0⟩ <;> rw [h3] at hb <;> simp at hb <;> subst hb
    all_goals
      go_enter Try.func56, Try.ntmps56
      go_wp2_with (first | (go_at_call 67; refine (rightTx_any _ _ h1 _).mono ?_; rintro e w' ⟨rfl, rfl⟩) | refine wpList_eqR (by rfl) _ _ rfl ⟨3, tx, mask, k0, k1, k2, k3, oT, oN, nT, nN⟩ ⟨3, tx, 0, 0, 0, 0, 0, false, 0, false, 0⟩ (by rfl) (by rfl) _ h3 ?_)
      go_ret
      exact ⟨rfl, (Below.refl _ _).alloc (Nat.le_refl _) _⟩
set_option maxRecDepth 100000 in
set_option maxHeartbeats 1000000 in
theorem right_4 (r : RecD) (hk : r.kind = 4) (b : Bool) (hb : rightB r = b) (w : World) : Calls Try.prog 56 #[recV r] w fun e w' => e = .returned (.bool b) ∧ Below w.heap.size w w' := by
  obtain ⟨kind, tx, mask, k0, k1, k2, k3, oT, oN, nT, nN⟩ := r
  dsimp only at hk
  subst hk
  simp [rightB] at hb
  rw [recV_eq]
  dsimp only
  cases h1 : okTx tx <;> rw [h1] at hb
  · simp at hb; subst hb
    go_enter Try.func56, Try.ntmps56
    go_wp2_with (first | (go_at_call 67; refine (rightTx_any _ _ h1 _).mono ?_; rintro e w' ⟨rfl, rfl⟩))
    go_ret
    exact ⟨rfl, (Below.refl _ _).alloc (Nat.le_refl _) _⟩
  · cases h3 : eqR ⟨4, tx, mask, k0, k1, k2, k3, oT, oN, nT, nN⟩ ⟨4, tx, 0, 0, 0, 0, 0, false, 0, false, 0⟩ <;> rw [h3] at hb <;> simp at hb <;> subst hb
    all_goals
      go_enter Try.func56, Try.ntmps56
      go_wp2_with (first | (go_at_call 67; refine (rightTx_any _ _ h1 _).mono ?_; rintro e w' ⟨rfl, rfl⟩) | refine wpList_eqR (by rfl) _ _ rfl ⟨4, tx, mask, k0, k1, k2, k3, oT, oN, nT, nN⟩ ⟨4, tx, 0, 0, 0, 0, 0, false, 0, false, 0⟩ (by rfl) (by rfl) _ h3 ?_)
      go_ret
      exact ⟨rfl, (Below.refl _ _).alloc (Nat.le_refl _) _⟩
set_option maxRecDepth 100000 in
set_option maxHeartbeats 1000000 in
theorem right_5 (r : RecD) (hk : r.kind = 5) (b : Bool) (hb : rightB r = b) (w : World) : Calls Try.prog 56 #[recV r] w fun e w' => e = .returned (.bool b) ∧ Below w.heap.size w w' := by
  obtain ⟨kind, tx, mask, k0, k1, k2, k3, oT, oN, nT, nN⟩ := r
  dsimp only at hk
  subst hk
  simp [rightB] at hb
  rw [recV_eq]
  dsimp only
  cases h1 : okTx tx <;> rw [h1] at hb
  · simp at hb; subst hb
    go_enter Try.func56, Try.ntmps56
    go_wp2_with (first | (go_at_call 67; refine (rightTx_any _ _ h1 _).mono ?_; rintro e w' ⟨rfl, rfl⟩))
    go_ret
    exact ⟨rfl, (Below.refl _ _).alloc (Nat.le_refl _) _⟩
  · cases h3 : eqR ⟨5, tx, mask, k0, k1, k2, k3, oT, oN, nT, nN⟩ ⟨5, tx, 0, 0, 0, 0, 0, false, 0, false, 0⟩ <;> rw [h3] at hb <;> simp at hb <;> subst hb
    all_goals
      go_enter Try.func56, Try.ntmps56
      go_wp2_with (first | (go_at_call 67; refine (rightTx_any _ _ h1 _).mono ?_; rintro e w' ⟨rfl, rfl⟩) | refine wpList_eqR (by rfl) _ _ rfl ⟨5, tx, mask, k0, k1, k2, k3, oT, oN, nT, nN⟩ ⟨5, tx, 0, 0, 0, 0, 0, false, 0, false, 0⟩ (by rfl) (by rfl) _ h3 ?_)
      go_ret
      exact ⟨rfl, (Below.refl _ _).alloc (Nat.le_refl _) _⟩
set_option maxRecDepth 100000 in
set_option maxHeartbeats 1000000 in
theorem right_6 (r : RecD) (hk : r.kind = 6) (b : Bool) (hb : rightB r = b) (w : World) : Calls Try.prog 56 #[recV r] w fun e w' => e = .returned (.bool b) ∧ Below w.heap.size w w' := by
  obtain ⟨kind, tx, mask, k0, k1, k2, k3, oT, oN, nT, nN⟩ := r
  dsimp only at hk
  subst hk
  simp [rightB] at hb
  rw [recV_eq]
  dsimp only
  cases h1 : okTx tx <;> rw [h1] at hb
  · simp at hb; subst hb
    go_enter Try.func56, Try.ntmps56
    go_wp2_with (first | (go_at_call 67; refine (rightTx_any _ _ h1 _).mono ?_; rintro e w' ⟨rfl, rfl⟩))
    go_ret
    exact ⟨rfl, (Below.refl _ _).alloc (Nat.le_refl _) _⟩
  · cases h3 : eqR ⟨6, tx, mask, k0, k1, k2, k3, oT, oN, nT, nN⟩ ⟨6, tx, 0, 0, 0, 0, 0, false, 0, false, 0⟩ <;> rw [h3] at hb <;> simp at hb <;> subst hb
    all_goals
      go_enter Try.func56, Try.ntmps56
      go_wp2_with (first | (go_at_call 67; refine (rightTx_any _ _ h1 _).mono ?_; rintro e w' ⟨rfl, rfl⟩) | refine wpList_eqR (by rfl) _ _ rfl ⟨6, tx, mask, k0, k1, k2, k3, oT, oN, nT, nN⟩ ⟨6, tx, 0, 0, 0, 0, 0, false, 0, false, 0⟩ (by rfl) (by rfl) _ h3 ?_)
      go_ret
      exact ⟨rfl, (Below.refl _ _).alloc (Nat.le_refl _) _⟩
set_option maxRecDepth 100000 in
set_option maxHeartbeats 1000000 in
theorem right_7 (r : RecD) (hk : r.kind = 7) (b : Bool) (hb : rightB r = b) (w : World) : Calls Try.prog 56 #[recV r] w fun e w' => e = .returned (.bool b) ∧ Below w.heap.size w w' := by
  obtain ⟨kind, tx, mask, k0, k1, k2, k3, oT, oN, nT, nN⟩ := r
  dsimp only at hk
  subst hk
  simp [rightB] at hb
  rw [recV_eq]
  dsimp only
  cases nT
  · simp at hb; subst hb
    go_enter Try.func56, Try.ntmps56
    go_wp2
    go_ret
    exact ⟨rfl, (Below.refl _ _).alloc (Nat.le_refl _) _⟩
  · cases h3 : eqR ⟨7, tx, mask, k0, k1, k2, k3, oT, oN, true, nN⟩ ⟨7, 0, 0, k0, k1, k2, k3, false, 0, true, nN⟩ <;> rw [h3] at hb <;> simp at hb <;> subst hb
    all_goals
      go_enter Try.func56, Try.ntmps56
      go_wp2_with (first | refine wpList_eqR (by rfl) _ _ rfl ⟨7, tx, mask, k0, k1, k2, k3, oT, oN, true, nN⟩ ⟨7, 0, 0, k0, k1, k2, k3, false, 0, true, nN⟩ (by rfl) (by rfl) _ h3 ?_)
      go_ret
      exact ⟨rfl, (Below.refl _ _).alloc (Nat.le_refl _) _⟩
set_option maxRecDepth 100000 in
set_option maxHeartbeats 1000000 in
theorem right_8 (r : RecD) (hk : r.kind = 8) (b : Bool) (hb : rightB r = b) (w : World) : Calls Try.prog 56 #[recV r] w fun e w' => e = .returned (.bool b) ∧ Below w.heap.size w w' := by
  obtain ⟨kind, tx, mask, k0, k1, k2, k3, oT, oN, nT, nN⟩ := r
  dsimp only at hk
  subst hk
  simp [rightB] at hb
  rw [recV_eq]
  dsimp only
  cases h2 : decide ((mask : Int) ≤ 64) <;> rw [h2] at hb
  · simp at hb; subst hb
    go_enter Try.func56, Try.ntmps56
    go_wp2
    go_ret
    exact ⟨rfl, (Below.refl _ _).alloc (Nat.le_refl _) _⟩
  · cases h3 : eqR ⟨8, tx, mask, k0, k1, k2, k3, oT, oN, nT, nN⟩ ⟨8, 0, mask, 0, 0, 0, 0, false, 0, false, 0⟩ <;> rw [h3] at hb <;> simp at hb <;> subst hb
    all_goals
      go_enter Try.func56, Try.ntmps56
      go_wp2_with (first | refine wpList_eqR (by rfl) _ _ rfl ⟨8, tx, mask, k0, k1, k2, k3, oT, oN, nT, nN⟩ ⟨8, 0, mask, 0, 0, 0, 0, false, 0, false, 0⟩ (by rfl) (by rfl) _ h3 ?_)
      go_ret
      exact ⟨rfl, (Below.refl _ _).alloc (Nat.le_refl _) _⟩
set_option maxRecDepth 100000 in
set_option maxHeartbeats 1000000 in
theorem right_1 (r : RecD) (hk : r.kind = 1) (b : Bool) (hb : rightB r = b) (w : World) : Calls Try.prog 56 #[recV r] w fun e w' => e = .returned (.bool b) ∧ Below w.heap.size w w' := by
  obtain ⟨kind, tx, mask, k0, k1, k2, k3, oT, oN, nT, nN⟩ := r
  dsimp only at hk
  subst hk
  simp [rightB] at hb
  rw [recV_eq]
  dsimp only
  cases h1 : okTx tx <;> rw [h1] at hb
  · simp at hb; subst hb
    go_enter Try.func56, Try.ntmps56
    go_wp2_with (first | (go_at_call 67; refine (rightTx_any _ _ h1 _).mono ?_; rintro e w' ⟨rfl, rfl⟩))
    go_ret
    exact ⟨rfl, (Below.refl _ _).alloc (Nat.le_refl _) _⟩
  · cases h2 : ((mask : Int) == 0) <;> rw [h2] at hb
    · simp at hb; subst hb
      go_enter Try.func56, Try.ntmps56
      go_wp2_with (first | (go_at_call 67; refine (rightTx_any _ _ h1 _).mono ?_; rintro e w' ⟨rfl, rfl⟩))
      go_ret
      exact ⟨rfl, (Below.refl _ _).alloc (Nat.le_refl _) _⟩
    · cases h3 : okVal oT oN <;> rw [h3] at hb
      · simp at hb; subst hb
        go_enter Try.func56, Try.ntmps56
        go_wp2_with (first | (go_at_call 67; refine (rightTx_any _ _ h1 _).mono ?_; rintro e w' ⟨rfl, rfl⟩) | (go_at_call 68; with_reducible refine (rightVal_any oT oN _ h3 _).mono ?_; rintro e w1 ⟨rfl, kb⟩; obtain ⟨kc, kf⟩ := bcell kb))
        go_ret
        exact ⟨rfl, ((Below.refl _ _).alloc (Nat.le_refl _) _).trans (kb.mono (by simp))⟩
      · cases h4 : okVal nT nN <;> rw [h4] at hb <;> simp at hb <;> subst hb
        all_goals
          go_enter Try.func56, Try.ntmps56
          go_wp2_with (first | (go_at_call 67; refine (rightTx_any _ _ h1 _).mono ?_; rintro e w' ⟨rfl, rfl⟩) | (go_at_call 68; with_reducible refine (rightVal_any oT oN _ h3 _).mono ?_; rintro e w1 ⟨rfl, kb⟩; obtain ⟨kc, kf⟩ := bcell kb) | (go_at_call 68; with_reducible refine (rightVal_any nT nN _ h4 _).mono ?_; rintro e w2 ⟨rfl, kb2⟩))
          go_ret
          exact ⟨rfl, (((Below.refl _ _).alloc (Nat.le_refl _) _).trans (kb.mono (by simp))).trans (kb2.mono (by have := kb.size; simp at this; omega))⟩
set_option maxRecDepth 100000 in
set_option maxHeartbeats 1000000 in
theorem right_none (r : RecD) (h1 : (r.kind == 1) = false) (h2 : (r.kind == 2) = false) (h3 : (r.kind == 3) = false) (h4 : (r.kind == 4) = false) (h5 : (r.kind == 5) = false) (h6 : (r.kind == 6) = false) (h7 : (r.kind == 7) = false) (h8 : (r.kind == 8) = false) (w : World) : Calls Try.prog 56 #[recV r] w fun e w' => e = .returned (.bool false) ∧ Below w.heap.size w w' := by
  obtain ⟨kind, tx, mask, k0, k1, k2, k3, oT, oN, nT, nN⟩ := r
  dsimp only at *
  rw [recV_eq]
  dsimp only
  go_enter Try.func56, Try.ntmps56
  go_wp2
  go_ret
  exact ⟨rfl, (Below.refl _ _).alloc (Nat.le_refl _) _⟩
theorem right_any (r : RecD) (b : Bool) (hb : rightB r = b) (w : World) : Calls Try.prog 56 #[recV r] w fun e w' => e = .returned (.bool b) ∧ Below w.heap.size w w' := by
  by_cases c1 : r.kind = 1
  · exact right_1 r c1 b hb w
  by_cases c2 : r.kind = 2
  · exact right_2 r c2 b hb w
  by_cases c3 : r.kind = 3
  · exact right_3 r c3 b hb w
  by_cases c4 : r.kind = 4
  · exact right_4 r c4 b hb w
  by_cases c5 : r.kind = 5
  · exact right_5 r c5 b hb w
  by_cases c6 : r.kind = 6
  · exact right_6 r c6 b hb w
  by_cases c7 : r.kind = 7
  · exact right_7 r c7 b hb w
  by_cases c8 : r.kind = 8
  · exact right_8 r c8 b hb w
  have e : rightB r = false := by simp [rightB, c1, c2, c3, c4, c5, c6, c7, c8]
  rw [e] at hb
  subst hb
  exact right_none r (by simpa using c1) (by simpa using c2) (by simpa using c3) (by simpa using c4) (by simpa using c5) (by simpa using c6) (by simpa using c7) (by simpa using c8) w
end Go.Proofs.Ytdmkkfpbgpijjaa
namespace Go.Proofs.Ytdmkkfpbgpijjaa
open Go.RowKit Go.Deep

/-- How many bytes a word has, one at least. -/
def nb (u : Nat) : Nat := if u < 256 then 1 else if u < 65536 then 2 else if u < 16777216 then 3 else if u < 4294967296 then 4 else if u < 1099511627776 then 5 else if u < 281474976710656 then 6 else if u < 72057594037927936 then 7 else 8
theorem nb_bd (u : Nat) : 1 ≤ nb u ∧ nb u ≤ 8 := by
  unfold nb; repeat (first | split | omega)
theorem nb_fit (u : Nat) (h : u < 18446744073709551616) : u / 2 ^ (8 * nb u) = 0 := by
  unfold nb
  repeat (first | split | (apply Nat.div_eq_of_lt; simp; omega))
theorem len8_bd : ∀ x : Nat, x < 256 → 0 ≤ Lib.len8 x ∧ Lib.len8 x ≤ 8 := by decide +kernel
theorem len8_pos : ∀ x : Nat, x < 256 → 1 ≤ x → 1 ≤ Lib.len8 x := by decide +kernel
def LenPost (u : Nat) (w : World) (e : Ending) (w' : World) : Prop := ∃ L : Int, e = .returned (.int .i64 L) ∧ 0 ≤ L ∧ L ≤ 64 ∧ max 1 ((L + 7) / 8) = ((nb u : Nat) : Int) ∧ w = w'
theorem len_post (u j x : Nat) (y L : Int) (hx : x < 256) (hp : 0 < j → 1 ≤ x) (hj : j ≤ 7) (hn : nb u = j + 1) (hy : y = (x : Int)) (hL : L = 8 * (j : Int) + Lib.len8 y) (w : World) : LenPost u w (.returned (.int .i64 L)) w := by
  subst hy
  have hb := len8_bd x hx
  refine ⟨L, rfl, by omega, by omega, ?_, rfl⟩
  rw [hn]
  rcases Nat.eq_zero_or_pos j with h0 | h0
  · subst h0
    omega
  · have := len8_pos x hx (hp h0)
    omega
theorem wrap_len (x : Nat) (hx : x < 256) (k : Int) (h0 : 0 ≤ k) (h1 : k ≤ 56) : wrap64 (Lib.len8 x) = Lib.len8 x ∧ wrap64 (k + Lib.len8 x) = k + Lib.len8 x := by
  have hb := len8_bd x hx
  unfold wrap64
  constructor <;> omega
set_option maxRecDepth 100000 in
set_option maxHeartbeats 1000000 in
theorem len64_0 (u : Nat) (h1 : 0 ≤ u) (h2 : u < 256) (w : World) : Calls Try.prog 82 #[.int .u64 u] w (LenPost u w) := by
  have hn : nb u = 0 + 1 := by unfold nb; rw [if_pos (by omega)]
  have da : decide ((4294967296 : Int) ≤ (u : Int)) = false := by simp; omega
  have db : decide ((65536 : Int) ≤ (u : Int)) = false := by simp; omega
  have dc : decide ((256 : Int) ≤ (u : Int)) = false := by simp; omega
  have hm : (u : Int) % 256 = (u : Int) := by omega
  have HP := Lib.hid (fun L hL => len_post u 0 u (u : Int) L (by omega) (by omega) (by omega) hn rfl hL w)
  have hle : (u : Int) ≤ 255 := by omega
  have hw := wrap_len u (by omega) 0 (by omega) (by omega)
  obtain ⟨hw1, hw2⟩ := hw
  clear hn h1 h2 
  go_enter Try.func82, Try.ntmps82
  go_wp2
  go_ret
  exact HP.out _ (by rw [hw1]; omega)
set_option maxRecDepth 100000 in
set_option maxHeartbeats 1000000 in
theorem len64_1 (u : Nat) (h1 : 256 ≤ u) (h2 : u < 65536) (w : World) : Calls Try.prog 82 #[.int .u64 u] w (LenPost u w) := by
  have hn : nb u = 1 + 1 := by unfold nb; rw [if_neg (by omega)]; rw [if_pos (by omega)]
  have da : decide ((4294967296 : Int) ≤ (u : Int)) = false := by simp; omega
  have db : decide ((65536 : Int) ≤ (u : Int)) = false := by simp; omega
  have dc : decide ((256 : Int) ≤ (u : Int)) = true := by simp; omega
  obtain ⟨c, ec⟩ : ∃ c : Nat, c = u / 256 := ⟨_, rfl⟩
  have qc : (u : Int) / 256 = (c : Int) := by rw [ec]; simp
  have hm : (c : Int) % 256 = (c : Int) := by omega
  have HP := Lib.hid (fun L hL => len_post u 1 c (c : Int) L (by omega) (by omega) (by omega) hn rfl hL w)
  have hle : (c : Int) ≤ 255 := by omega
  have hw := wrap_len c (by omega) 8 (by omega) (by omega)
  obtain ⟨hw1, hw2⟩ := hw
  clear hn h1 h2 ec
  go_enter Try.func82, Try.ntmps82
  go_wp2
  go_ret
  exact HP.out _ (by rw [hw2]; omega)
set_option maxRecDepth 100000 in
set_option maxHeartbeats 1000000 in
theorem len64_2 (u : Nat) (h1 : 65536 ≤ u) (h2 : u < 16777216) (w : World) : Calls Try.prog 82 #[.int .u64 u] w (LenPost u w) := by
  have hn : nb u = 2 + 1 := by unfold nb; rw [if_neg (by omega)]; rw [if_neg (by omega)]; rw [if_pos (by omega)]
  have da : decide ((4294967296 : Int) ≤ (u : Int)) = false := by simp; omega
  have db : decide ((65536 : Int) ≤ (u : Int)) = true := by simp; omega
  obtain ⟨b, eb⟩ : ∃ b : Nat, b = u / 65536 := ⟨_, rfl⟩
  have qb : (u : Int) / 65536 = (b : Int) := by rw [eb]; simp
  have dc : decide ((256 : Int) ≤ (b : Int)) = false := by simp; omega
  have hm : (b : Int) % 256 = (b : Int) := by omega
  have HP := Lib.hid (fun L hL => len_post u 2 b (b : Int) L (by omega) (by omega) (by omega) hn rfl hL w)
  have hle : (b : Int) ≤ 255 := by omega
  have hw := wrap_len b (by omega) 16 (by omega) (by omega)
  obtain ⟨hw1, hw2⟩ := hw
  clear hn h1 h2 eb
  go_enter Try.func82, Try.ntmps82
  go_wp2
  go_ret
  exact HP.out _ (by rw [hw2]; omega)
set_option maxRecDepth 100000 in
set_option maxHeartbeats 1000000 in
theorem len64_3 (u : Nat) (h1 : 16777216 ≤ u) (h2 : u < 4294967296) (w : World) : Calls Try.prog 82 #[.int .u64 u] w (LenPost u w) := by
  have hn : nb u = 3 + 1 := by unfold nb; rw [if_neg (by omega)]; rw [if_neg (by omega)]; rw [if_neg (by omega)]; rw [if_pos (by omega)]
  have da : decide ((4294967296 : Int) ≤ (u : Int)) = false := by simp; omega
  have db : decide ((65536 : Int) ≤ (u : Int)) = true := by simp; omega
  obtain ⟨b, eb⟩ : ∃ b : Nat, b = u / 65536 := ⟨_, rfl⟩
  have qb : (u : Int) / 65536 = (b : Int) := by rw [eb]; simp
  have dc : decide ((256 : Int) ≤ (b : Int)) = true := by simp; omega
  obtain ⟨c, ec⟩ : ∃ c : Nat, c = b / 256 := ⟨_, rfl⟩
  have qc : (b : Int) / 256 = (c : Int) := by rw [ec]; simp
  have hm : (c : Int) % 256 = (c : Int) := by omega
  have HP := Lib.hid (fun L hL => len_post u 3 c (c : Int) L (by omega) (by omega) (by omega) hn rfl hL w)
  have hle : (c : Int) ≤ 255 := by omega
  have hw := wrap_len c (by omega) 24 (by omega) (by omega)
  obtain ⟨hw1, hw2⟩ := hw
  clear hn h1 h2 eb ec
  go_enter Try.func82, Try.ntmps82
  go_wp2
  go_ret
  exact HP.out _ (by rw [hw2]; omega)
set_option maxRecDepth 100000 in
set_option maxHeartbeats 1000000 in
theorem len64_4 (u : Nat) (h1 : 4294967296 ≤ u) (h2 : u < 1099511627776) (w : World) : Calls Try.prog 82 #[.int .u64 u] w (LenPost u w) := by
  have hn : nb u = 4 + 1 := by unfold nb; rw [if_neg (by omega)]; rw [if_neg (by omega)]; rw [if_neg (by omega)]; rw [if_neg (by omega)]; rw [if_pos (by omega)]
  have da : decide ((4294967296 : Int) ≤ (u : Int)) = true := by simp; omega
  obtain ⟨a, ea⟩ : ∃ a : Nat, a = u / 4294967296 := ⟨_, rfl⟩
  have qa : (u : Int) / 4294967296 = (a : Int) := by rw [ea]; simp
  have db : decide ((65536 : Int) ≤ (a : Int)) = false := by simp; omega
  have dc : decide ((256 : Int) ≤ (a : Int)) = false := by simp; omega
  have hm : (a : Int) % 256 = (a : Int) := by omega
  have HP := Lib.hid (fun L hL => len_post u 4 a (a : Int) L (by omega) (by omega) (by omega) hn rfl hL w)
  have hle : (a : Int) ≤ 255 := by omega
  have hw := wrap_len a (by omega) 32 (by omega) (by omega)
  obtain ⟨hw1, hw2⟩ := hw
  clear hn h1 h2 ea
  go_enter Try.func82, Try.ntmps82
  go_wp2
  go_ret
  exact HP.out _ (by rw [hw2]; omega)
set_option maxRecDepth 100000 in
set_option maxHeartbeats 1000000 in
theorem len64_5 (u : Nat) (h1 : 1099511627776 ≤ u) (h2 : u < 281474976710656) (w : World) : Calls Try.prog 82 #[.int .u64 u] w (LenPost u w) := by
  have hn : nb u = 5 + 1 := by unfold nb; rw [if_neg (by omega)]; rw [if_neg (by omega)]; rw [if_neg (by omega)]; rw [if_neg (by omega)]; rw [if_neg (by omega)]; rw [if_pos (by omega)]
  have da : decide ((4294967296 : Int) ≤ (u : Int)) = true := by simp; omega
  obtain ⟨a, ea⟩ : ∃ a : Nat, a = u / 4294967296 := ⟨_, rfl⟩
  have qa : (u : Int) / 4294967296 = (a : Int) := by rw [ea]; simp
  have db : decide ((65536 : Int) ≤ (a : Int)) = false := by simp; omega
  have dc : decide ((256 : Int) ≤ (a : Int)) = true := by simp; omega
  obtain ⟨c, ec⟩ : ∃ c : Nat, c = a / 256 := ⟨_, rfl⟩
  have qc : (a : Int) / 256 = (c : Int) := by rw [ec]; simp
  have hm : (c : Int) % 256 = (c : Int) := by omega
  have HP := Lib.hid (fun L hL => len_post u 5 c (c : Int) L (by omega) (by omega) (by omega) hn rfl hL w)
  have hle : (c : Int) ≤ 255 := by omega
  have hw := wrap_len c (by omega) 40 (by omega) (by omega)
  obtain ⟨hw1, hw2⟩ := hw
  clear hn h1 h2 ea ec
  go_enter Try.func82, Try.ntmps82
  go_wp2
  go_ret
  exact HP.out _ (by rw [hw2]; omega)
set_option maxRecDepth 100000 in
set_option maxHeartbeats 1000000 in
theorem len64_6 (u : Nat) (h1 : 281474976710656 ≤ u) (h2 : u < 72057594037927936) (w : World) : Calls Try.prog 82 #[.int .u64 u] w (LenPost u w) := by
  have hn : nb u = 6 + 1 := by unfold nb; rw [if_neg (by omega)]; rw [if_neg (by omega)]; rw [if_neg (by omega)]; rw [if_neg (by omega)]; rw [if_neg (by omega)]; rw [if_neg (by omega)]; rw [if_pos (by omega)]
  have da : decide ((4294967296 : Int) ≤ (u : Int)) = true := by simp; omega
  obtain ⟨a, ea⟩ : ∃ a : Nat, a = u / 4294967296 := ⟨_, rfl⟩
  have qa : (u : Int) / 4294967296 = (a : Int) := by rw [ea]; simp
  have db : decide ((65536 : Int) ≤ (a : Int)) = true := by simp; omega
  obtain ⟨b, eb⟩ : ∃ b : Nat, b = a / 65536 := ⟨_, rfl⟩
  have qb : (a : Int) / 65536 = (b : Int) := by rw [eb]; simp
  have dc : decide ((256 : Int) ≤ (b : Int)) = false := by simp; omega
  have hm : (b : Int) % 256 = (b : Int) := by omega
  have HP := Lib.hid (fun L hL => len_post u 6 b (b : Int) L (by omega) (by omega) (by omega) hn rfl hL w)
  have hle : (b : Int) ≤ 255 := by omega
  have hw := wrap_len b (by omega) 48 (by omega) (by omega)
  obtain ⟨hw1, hw2⟩ := hw
  clear hn h1 h2 ea eb
  go_enter Try.func82, Try.ntmps82
  go_wp2
  go_ret
  exact HP.out _ (by rw [hw2]; omega)
set_option maxRecDepth 100000 in
set_option maxHeartbeats 1000000 in
theorem len64_7 (u : Nat) (h1 : 72057594037927936 ≤ u) (h2 : u < 18446744073709551616) (w : World) : Calls Try.prog 82 #[.int .u64 u] w (LenPost u w) := by
  have hn : nb u = 7 + 1 := by unfold nb; rw [if_neg (by omega)]; rw [if_neg (by omega)]; rw [if_neg (by omega)]; rw [if_neg (by omega)]; rw [if_neg (by omega)]; rw [if_neg (by omega)]; rw [if_neg (by omega)]
  have da : decide ((4294967296 : Int) ≤ (u : Int)) = true := by simp; omega
  obtain ⟨a, ea⟩ : ∃ a : Nat, a = u / 4294967296 := ⟨_, rfl⟩
  have qa : (u : Int) / 4294967296 = (a : Int) := by rw [ea]; simp
  have db : decide ((65536 : Int) ≤ (a : Int)) = true := by simp; omega
  obtain ⟨b, eb⟩ : ∃ b : Nat, b = a / 65536 := ⟨_, rfl⟩
  have qb : (a : Int) / 65536 = (b : Int) := by rw [eb]; simp
  have dc : decide ((256 : Int) ≤ (b : Int)) = true := by simp; omega
  obtain ⟨c, ec⟩ : ∃ c : Nat, c = b / 256 := ⟨_, rfl⟩
  have qc : (b : Int) / 256 = (c : Int) := by rw [ec]; simp
  have hm : (c : Int) % 256 = (c : Int) := by omega
  have HP := Lib.hid (fun L hL => len_post u 7 c (c : Int) L (by omega) (by omega) (by omega) hn rfl hL w)
  have hle : (c : Int) ≤ 255 := by omega
  have hw := wrap_len c (by omega) 56 (by omega) (by omega)
  obtain ⟨hw1, hw2⟩ := hw
  clear hn h1 h2 ea eb ec
  go_enter Try.func82, Try.ntmps82
  go_wp2
  go_ret
  exact HP.out _ (by rw [hw2]; omega)
theorem len64_any (u : Nat) (h : u < 18446744073709551616) (w : World) : Calls Try.prog 82 #[.int .u64 u] w (LenPost u w) := by
  by_cases c0 : u < 256
  · exact len64_0 u (by omega) c0 w
  by_cases c1 : u < 65536
  · exact len64_1 u (by omega) c1 w
  by_cases c2 : u < 16777216
  · exact len64_2 u (by omega) c2 w
  by_cases c3 : u < 4294967296
  · exact len64_3 u (by omega) c3 w
  by_cases c4 : u < 1099511627776
  · exact len64_4 u (by omega) c4 w
  by_cases c5 : u < 281474976710656
  · exact len64_5 u (by omega) c5 w
  by_cases c6 : u < 72057594037927936
  · exact len64_6 u (by omega) c6 w
  exact len64_7 u (by omega) (by omega) w
end Go.Proofs.Ytdmkkfpbgpijjaa
namespace Go.Proofs.Ytdmkkfpbgpijjaa
open Go.RowKit Go.Deep

def zigN (n : Int) : Nat := (zigI n).toNat
def valL (t : Bool) (n : Int) : List Int := if t then bytesL (zigN n) (nb (zigN n)) else []
def less (t : Bool) (n : Int) : Nat := if t then nb (zigN n) - 1 else 0
def bitN (b : Bool) : Nat := if b then 1 else 0
def flagsN (r : RecD) : Nat := bitN r.oT + 2 * bitN r.nT + 4 * less r.oT r.oN + 32 * less r.nT r.nN
def headN (r : RecD) : Nat := (r.kind - 1 + 8 * r.tx).toNat
def tailL (r : RecD) : List Int :=
  if r.kind = 2 ∨ r.kind = 8 then bytesL r.mask 2
  else if r.kind = 1 ∨ r.kind = 7 then [r.k0, r.k1, r.k2, r.k3] ++ ((flagsN r : Int) :: (valL r.oT r.oN ++ valL r.nT r.nN))
  else []
/-- A right record's bytes. -/
def encL (r : RecD) : List Int := bytesL (headN r) 3 ++ tailL r
def isI64 (n : Int) : Prop := -9223372036854775808 ≤ n ∧ n ≤ 9223372036854775807
/-- A record as it can be. -/
structure okR (r : RecD) : Prop where
  mask : r.mask < 65536
  k0 : 0 ≤ r.k0 ∧ r.k0 < 256
  k1 : 0 ≤ r.k1 ∧ r.k1 < 256
  k2 : 0 ≤ r.k2 ∧ r.k2 < 256
  k3 : 0 ≤ r.k3 ∧ r.k3 < 256
  oN : isI64 r.oN
  nN : isI64 r.nN

theorem ret_i {k : IntKind} {a b : Int} (h : a = b) : Ending.returned (.int k a) = .returned (.int k b) := by rw [h]
theorem zigN_lt (n : Int) (h : isI64 n) : zigN n < 18446744073709551616 := by
  have := zig_lt n h.1 h.2
  have := zig_nonneg n
  unfold zigN; omega
theorem zigN_cast (n : Int) : ((zigN n : Nat) : Int) = zigI n := by
  have := zig_nonneg n
  unfold zigN; omega
theorem bitN_le (b : Bool) : bitN b ≤ 1 := by cases b <;> simp [bitN]
theorem less_le (t : Bool) (n : Int) : less t n ≤ 7 := by
  unfold less
  split
  · have := nb_bd (zigN n); omega
  · omega
theorem valL_length (t : Bool) (n : Int) : (valL t n).length = if t then nb (zigN n) else 0 := by
  unfold valL; split <;> simp [bytesL_length]
theorem valL_le (t : Bool) (n : Int) : (valL t n).length ≤ 8 := by
  rw [valL_length]; have := nb_bd (zigN n); split <;> omega
theorem valL_bytes (t : Bool) (n : Int) : isBytes (valL t n) := by
  unfold valL; split
  · exact bytesL_bytes _ _
  · intro z hz; cases hz

/-! ### what calls answer as bytes of one's own -/
theorem Owns.base {B B' : Nat} {w : World} {v : Value} {zs : List Int} (h : Owns B w v zs) (hB : B' ≤ B) : Owns B' w v zs := by
  refine ⟨h.1, ?_⟩
  rcases h.2 with h | ⟨g, cap, cur, h1, h2, h3⟩
  · exact .inl h
  · exact .inr ⟨g, cap, cur, h1, Nat.le_trans hB h2, h3⟩
theorem owns_row {base b n : Nat} {w : World} {f : Nat → Int} {zs : List Int} (h : w.rowIs b 5 n (fun j => .int .u8 (f j))) (hb : base ≤ b) (hn : n ≤ 10000) (hl : zs.length = n) (hz : ∀ j, j < n → zs[j]?.getD 0 = f j) : Owns base w (.slice (some ⟨b, 0, none⟩) n n) zs := by
  obtain ⟨c, h1, h2, h3⟩ := h
  subst hl
  refine ⟨by simp, .inr ⟨b, zs.length, c, rfl, hb, h1, Nat.le_refl _, by simp only [maxLen]; omega, by simp [h2], ?_⟩⟩
  apply List.ext_getElem
  · simp [h2]
  · intro i h4 h5
    have hi : i < zs.length := by simpa using h5
    have e := h3 i hi
    have e2 := hz i hi
    simp [hi] at e2
    rw [Array.getElem?_eq_getElem (by omega)] at e
    simp at e
    simp [e, e2]
theorem bytes_owns (u : Nat) (hu : u < 18446744073709551616) (n : Nat) (h : n ≤ 8) (hz : u / 2 ^ (8 * n) = 0) (w : World) : Calls Try.prog 59 #[.int .u64 u, .int .i64 n] w (GivesB (bytesL u n) w) := by
  refine (bytes_yes u hu n h hz w).mono ?_
  rintro e w' ⟨rfl, hr, hb⟩
  exact ⟨_, rfl, owns_row hr (Nat.le_refl _) (by omega) (bytesL_length u n) (fun j hj => bytesL_at u n j hj), hb⟩

def GivesW (ws : List Int) (w : World) (e : Ending) (w' : World) : Prop := e = .returned (.slice (some ⟨w.heap.size, 0, none⟩) ws.length ws.length) ∧ Ints .i64 w'.heap.size w' (some ⟨w.heap.size, 0, none⟩) ws ∧ Below w.heap.size w w'
theorem ints_lit (k : IntKind) (w : World) (zs : List Int) (t : TypeId) (C : Array Value) (hC : C = (zs.map (Value.int k)).toArray) : Ints k (w.alloc (.cells C t)).heap.size (w.alloc (.cells C t)) (some ⟨w.heap.size, 0, none⟩) zs := by
  subst hC
  refine fun _ => ⟨w.heap.size, 0, rfl, by simp, fun j hj => ?_⟩
  rw [Nat.zero_add, cell_of_row _ w.heap.size j _ t (0, 0) (heap_alloc_new w _)]
  simp [hj]
set_option maxRecDepth 100000 in
set_option maxHeartbeats 400000 in
theorem headWidths_any (w : World) : Calls Try.prog 58 #[] w (GivesW [3, 21] w) := by
  go_enter Try.func58, Try.ntmps58
  go_wp2
  go_ret
  exact ⟨rfl, ints_lit .i64 w [3, 21] 3 _ rfl, (Below.refl _ _).alloc (Nat.le_refl _) _⟩
set_option maxRecDepth 100000 in
set_option maxHeartbeats 400000 in
theorem flagWidths_any (w : World) : Calls Try.prog 71 #[] w (GivesW [1, 1, 3, 3] w) := by
  go_enter Try.func71, Try.ntmps71
  go_wp2
  go_ret
  exact ⟨rfl, ints_lit .i64 w [1, 1, 3, 3] 3 _ rfl, (Below.refl _ _).alloc (Nat.le_refl _) _⟩
set_option maxRecDepth 100000 in
set_option maxHeartbeats 400000 in
theorem packed_any (n u : Nat) (ws vs : List Int) (A A' : Option Addr) (c c' l l' : Nat) (hn : n ≤ 8) (hl : ws.length = l) (hl' : vs.length = l') (hv : i64s vs) (hk : packOK ws vs = true) (hu : packN ws vs = u) (hu2 : u < 18446744073709551616) (hz : u / 2 ^ (8 * n) = 0) (w : World) (hI : Ints .i64 w.heap.size w A ws) (hI' : Ints .i64 w.heap.size w A' vs) :
    Calls Try.prog 57 #[.int .i64 n, .slice A l c, .slice A' l' c'] w (GivesB (bytesL u n) w) := by
  have hlw : ws.length ≤ 64 := okW_short ws (by simp only [packOK, Bool.and_eq_true] at hk; exact hk.1)
  have c1 := pack_gives ws vs hv (by omega) u true (by rw [hk, hu]; rfl) hk A A' c c' l l' hl hl' w hI hI'
  have c2 := fun W => bytes_owns u hu2 n hn hz W
  clear hk hu hz hI hI' hu2 hl hl' hlw hv
  go_enter Try.func57, Try.ntmps57
  go_wp2_with fail
  refine c1.mono ?_
  rintro e w1 ⟨rfl, b1⟩
  go_wp2_with fail
  refine (c2 _).mono ?_
  rintro e w2 ⟨v, rfl, o2, b2⟩
  go_wp2
  go_ret
  exact ⟨v, rfl, o2.base b1.size, below_more b1 b2 (Nat.le_refl _)⟩
set_option maxRecDepth 100000 in
set_option maxHeartbeats 400000 in
theorem bit_any (b : Bool) (w : World) : Calls Try.prog 72 #[.bool b] w fun e w' => e = .returned (.int .i64 (bitN b)) ∧ w = w' := by
  cases b
  all_goals
    go_enter Try.func72, Try.ntmps72
    go_wp2
    go_ret
    exact ⟨rfl, rfl⟩
set_option maxRecDepth 100000 in
set_option maxHeartbeats 400000 in
theorem lessOne_any (A : Option Addr) (l c q : Nat) (hl : l ≤ 8) (hq : l - 1 = q) (w : World) : Calls Try.prog 73 #[.slice A l c] w fun e w' => e = .returned (.int .i64 q) ∧ w = w' := by
  have hm : (1 < (l : Int) → (l : Int) - 1 = (q : Int)) ∧ ((l : Int) ≤ 1 → (0 : Int) = (q : Int)) := by omega
  have HM := Lib.hid hm
  clear hm hq
  go_enter Try.func73, Try.ntmps73
  go_wp2
  · go_ret
    exact ⟨ret_i (HM.out.1 (by assumption)), rfl⟩
  · go_ret
    exact ⟨ret_i (HM.out.2 (by assumption)), rfl⟩
set_option maxRecDepth 100000 in
set_option maxHeartbeats 1000000 in
theorem valBytes_any (t : Bool) (n : Int) (hn : isI64 n) (w : World) : Calls Try.prog 70 #[.agg #[.bool t, .int .i64 n]] w (GivesB (valL t n) w) := by
  cases t
  · go_enter Try.func70, Try.ntmps70
    go_wp2
    go_ret
    exact ⟨_, rfl, ⟨rfl, .inl ⟨rfl, rfl⟩⟩, (Below.refl _ _).alloc (Nat.le_refl _) _⟩
  · have c1 := fun W => zig_any n hn.1 (by have := hn.2; omega) W
    rw [← zigN_cast] at c1
    have hlt := zigN_lt n hn
    have c2 := fun W => len64_any (zigN n) hlt W
    have c3 := fun W => bytes_owns (zigN n) hlt (nb (zigN n)) (nb_bd _).2 (nb_fit _ hlt) W
    have e : valL true n = bytesL (zigN n) (nb (zigN n)) := rfl
    rw [e]
    generalize zigN n = u at *
    unfold LenPost at c2
    generalize nb u = k at *
    clear e hn hlt
    go_enter Try.func70, Try.ntmps70
    go_wp2_with fail
    refine (c1 _).mono ?_
    rintro e w' ⟨rfl, rfl⟩
    go_wp2_with fail
    refine (c2 _).mono ?_
    rintro e w' ⟨L, rfl, h0, h1, hm, rfl⟩
    obtain ⟨q, hq⟩ : ∃ q, (L + 7) / 8 = q := ⟨_, rfl⟩
    rw [hq] at hm
    by_cases h : 1 < q
    · obtain rfl : q = (k : Int) := by omega
      clear hm
      go_wp2_with fail
      refine (c3 _).mono ?_
      rintro e w2 ⟨v, rfl, o2, b2⟩
      go_wp2
      go_ret
      exact ⟨v, rfl, o2.base (by simp), ((Below.refl _ _).alloc (Nat.le_refl _) _).trans (b2.mono (by simp))⟩
    · obtain rfl : k = 1 := by omega
      clear hm
      go_wp2_with fail
      refine (c3 _).mono ?_
      rintro e w2 ⟨v, rfl, o2, b2⟩
      go_wp2
      go_ret
      exact ⟨v, rfl, o2.base (by simp), ((Below.refl _ _).alloc (Nat.le_refl _) _).trans (b2.mono (by simp))⟩
end Go.Proofs.Ytdmkkfpbgpijjaa
namespace Go.Proofs.Ytdmkkfpbgpijjaa
open Go.RowKit Go.Deep

theorem flags_pack (a b c d : Nat) (ha : a ≤ 1) (hb : b ≤ 1) (hc : c ≤ 7) (hd : d ≤ 7) :
    packOK [1, 1, 3, 3] [(a : Int), (b : Int), (c : Int), (d : Int)] = true ∧ packN [1, 1, 3, 3] [(a : Int), (b : Int), (c : Int), (d : Int)] = a + 2 * b + 4 * c + 32 * d ∧ i64s [(a : Int), (b : Int), (c : Int), (d : Int)] := by
  refine ⟨?_, ?_, ?_⟩
  · simp [packOK, okW, okVs, okV, sumI]; omega
  · simp [packN]; omega
  · intro v hv
    simp at hv
    omega
theorem head_pack (k t : Int) (h1 : 1 ≤ k) (h2 : k ≤ 8) (h3 : 0 ≤ t) (h4 : t ≤ 1048576) :
    packOK [3, 21] [k - 1, t] = true ∧ packN [3, 21] [k - 1, t] = (k - 1 + 8 * t).toNat ∧ i64s [k - 1, t] := by
  refine ⟨?_, ?_, ?_⟩
  · simp [packOK, okW, okVs, okV, sumI]; omega
  · simp [packN]; omega
  · intro v hv
    simp at hv
    omega
theorem Ints.more' {k : IntKind} {w : World} {A : Option Addr} {zs : List Int} (h : Ints k w.heap.size w A zs) (o : Obj) : Ints k (w.alloc o).heap.size (w.alloc o) A zs := (h.below ((Below.refl _ _).alloc (Nat.le_refl _) o) (Nat.le_refl _)).more (by simp)
theorem one_byte (u : Nat) (h : u < 256) : bytesL u 1 = [(u : Int)] := by
  simp [bytesL, byteAt]; omega
def valsL (oT : Bool) (oN : Int) (nT : Bool) (nN : Int) : List Int := ((bitN oT + 2 * bitN nT + 4 * less oT oN + 32 * less nT nN : Nat) : Int) :: (valL oT oN ++ valL nT nN)
theorem less_of (t : Bool) (n : Int) : (valL t n).length - 1 = less t n := by
  rw [valL_length]; unfold less; split <;> rfl

set_option maxRecDepth 100000 in
set_option maxHeartbeats 2000000 in
theorem valsBytes_any (oT : Bool) (oN : Int) (nT : Bool) (nN : Int) (ho : isI64 oN) (hn : isI64 nN) (w : World) :
    Calls Try.prog 60 #[.agg #[.bool oT, .int .i64 oN], .agg #[.bool nT, .int .i64 nN]] w (GivesB (valsL oT oN nT nN) w) := by
  obtain ⟨W0, hW0⟩ : ∃ W0, W0 = (w.alloc (.cells #[.bool oT, .int .i64 oN] 46)).alloc (.cells #[.bool nT, .int .i64 nN] 46) := ⟨_, rfl⟩
  have hs0 : W0.heap.size = w.heap.size + 2 := by rw [hW0]; simp
  have a0 : W0.cell? ⟨w.heap.size, 0, none⟩ = some (.bool oT) := by rw [hW0]; simp [go_sem]
  have a1 : W0.cell? ⟨w.heap.size, 1, none⟩ = some (.int .i64 oN) := by rw [hW0]; simp [go_sem]
  have b0 : W0.cell? ⟨w.heap.size + 1, 0, none⟩ = some (.bool nT) := by rw [hW0]; simp [go_sem]
  have b1 : W0.cell? ⟨w.heap.size + 1, 1, none⟩ = some (.int .i64 nN) := by rw [hW0]; simp [go_sem]
  have kS : ∀ W, Below (w.heap.size + 2) W0 W → (W.cell? ⟨w.heap.size, 0, none⟩ = some (.bool oT) ∧ W.cell? ⟨w.heap.size, 1, none⟩ = some (.int .i64 oN) ∧ W.cell? ⟨w.heap.size + 1, 0, none⟩ = some (.bool nT) ∧ W.cell? ⟨w.heap.size + 1, 1, none⟩ = some (.int .i64 nN) ∧ Below (w.heap.size + 2) W0 W) := fun W hb =>
    ⟨(hb.cell (p := ⟨w.heap.size, 0, none⟩) (by show w.heap.size < _; omega)).trans a0, (hb.cell (p := ⟨w.heap.size, 1, none⟩) (by show w.heap.size < _; omega)).trans a1, (hb.cell (p := ⟨w.heap.size + 1, 0, none⟩) (by show w.heap.size + 1 < _; omega)).trans b0, (hb.cell (p := ⟨w.heap.size + 1, 1, none⟩) (by show w.heap.size + 1 < _; omega)).trans b1, hb⟩
  have hsz : ∀ W, Below (w.heap.size + 2) W0 W → w.heap.size + 2 ≤ W.heap.size := fun W hb => by have := hb.size; omega
  have hw0 : Below w.heap.size w W0 := by rw [hW0]; exact ((Below.refl _ _).alloc (Nat.le_refl _) _).alloc (by simp) _
  have kA : ∀ W o, Below (w.heap.size + 2) W0 W → Below (w.heap.size + 2) W0 (W.alloc o) := fun W o hb => hb.alloc (hsz W hb) o
  have kT : ∀ W W', Below (w.heap.size + 2) W0 W → Below W.heap.size W W' → Below (w.heap.size + 2) W0 W' := fun W W' hb hk => hb.trans (hk.mono (hsz W hb))
  obtain ⟨l1, hl1⟩ : ∃ l1, (valL oT oN).length = l1 := ⟨_, rfl⟩
  obtain ⟨l2, hl2⟩ : ∃ l2, (valL nT nN).length = l2 := ⟨_, rfl⟩
  have m1 : l1 ≤ 8 := by rw [← hl1]; exact valL_le _ _
  have m2 : l2 ≤ 8 := by rw [← hl2]; exact valL_le _ _
  have hp := flags_pack (bitN oT) (bitN nT) (less oT oN) (less nT nN) (bitN_le _) (bitN_le _) (less_le _ _) (less_le _ _)
  have q1 : l1 - 1 = less oT oN := by rw [← hl1]; exact less_of _ _
  have q2 : l2 - 1 = less nT nN := by rw [← hl2]; exact less_of _ _
  have p1 := bitN_le oT
  have p2 := bitN_le nT
  have p3 := less_le oT oN
  have p4 := less_le nT nN
  unfold valsL
  have F1 : ∀ W, (W.cell? ⟨w.heap.size, 0, none⟩ = some (.bool oT) ∧ W.cell? ⟨w.heap.size, 1, none⟩ = some (.int .i64 oN) ∧ W.cell? ⟨w.heap.size + 1, 0, none⟩ = some (.bool nT) ∧ W.cell? ⟨w.heap.size + 1, 1, none⟩ = some (.int .i64 nN) ∧ Below (w.heap.size + 2) W0 W) → Calls Try.prog 70 #[.agg #[.bool oT, .int .i64 oN]] W fun e w' => ∃ A c, e = .returned (.slice A l1 c) ∧ Good A c (valL oT oN) w' ∧ Below W.heap.size W w' ∧ (w'.cell? ⟨w.heap.size, 0, none⟩ = some (.bool oT) ∧ w'.cell? ⟨w.heap.size, 1, none⟩ = some (.int .i64 oN) ∧ w'.cell? ⟨w.heap.size + 1, 0, none⟩ = some (.bool nT) ∧ w'.cell? ⟨w.heap.size + 1, 1, none⟩ = some (.int .i64 nN) ∧ Below (w.heap.size + 2) W0 w') := fun W h => by
    refine (valBytes_any oT oN ho W).mono ?_
    rintro e w' ⟨v, rfl, o, k⟩
    obtain ⟨A, c, rfl, g⟩ := o.good
    exact ⟨A, c, by rw [hl1], g, k, kS _ (kT _ _ h.2.2.2.2 k)⟩
  have F2 : ∀ W, (W.cell? ⟨w.heap.size, 0, none⟩ = some (.bool oT) ∧ W.cell? ⟨w.heap.size, 1, none⟩ = some (.int .i64 oN) ∧ W.cell? ⟨w.heap.size + 1, 0, none⟩ = some (.bool nT) ∧ W.cell? ⟨w.heap.size + 1, 1, none⟩ = some (.int .i64 nN) ∧ Below (w.heap.size + 2) W0 W) → Calls Try.prog 70 #[.agg #[.bool nT, .int .i64 nN]] W fun e w' => ∃ A c, e = .returned (.slice A l2 c) ∧ Good A c (valL nT nN) w' ∧ Below W.heap.size W w' ∧ (w'.cell? ⟨w.heap.size, 0, none⟩ = some (.bool oT) ∧ w'.cell? ⟨w.heap.size, 1, none⟩ = some (.int .i64 oN) ∧ w'.cell? ⟨w.heap.size + 1, 0, none⟩ = some (.bool nT) ∧ w'.cell? ⟨w.heap.size + 1, 1, none⟩ = some (.int .i64 nN) ∧ Below (w.heap.size + 2) W0 w') := fun W h => by
    refine (valBytes_any nT nN hn W).mono ?_
    rintro e w' ⟨v, rfl, o, k⟩
    obtain ⟨A, c, rfl, g⟩ := o.good
    exact ⟨A, c, by rw [hl2], g, k, kS _ (kT _ _ h.2.2.2.2 k)⟩
  have F3 : ∀ W, (W.cell? ⟨w.heap.size, 0, none⟩ = some (.bool oT) ∧ W.cell? ⟨w.heap.size, 1, none⟩ = some (.int .i64 oN) ∧ W.cell? ⟨w.heap.size + 1, 0, none⟩ = some (.bool nT) ∧ W.cell? ⟨w.heap.size + 1, 1, none⟩ = some (.int .i64 nN) ∧ Below (w.heap.size + 2) W0 W) → Calls Try.prog 71 #[] W fun e w' => ∃ A, e = .returned (.slice A 4 4) ∧ Ints .i64 w'.heap.size w' A [1, 1, 3, 3] ∧ Below W.heap.size W w' ∧ (w'.cell? ⟨w.heap.size, 0, none⟩ = some (.bool oT) ∧ w'.cell? ⟨w.heap.size, 1, none⟩ = some (.int .i64 oN) ∧ w'.cell? ⟨w.heap.size + 1, 0, none⟩ = some (.bool nT) ∧ w'.cell? ⟨w.heap.size + 1, 1, none⟩ = some (.int .i64 nN) ∧ Below (w.heap.size + 2) W0 w') := fun W h => by
    refine (flagWidths_any W).mono ?_
    rintro e w' ⟨rfl, i, k⟩
    exact ⟨_, rfl, i, k, kS _ (kT _ _ h.2.2.2.2 k)⟩
  have F4 := fun W => bit_any oT W
  have F5 := fun W => bit_any nT W
  have F6 := fun A c W => lessOne_any A l1 c (less oT oN) m1 q1 W
  have F7 := fun A c W => lessOne_any A l2 c (less nT nN) m2 q2 W
  generalize bitN oT = x1 at *
  generalize bitN nT = x2 at *
  generalize less oT oN = x3 at *
  generalize less nT nN = x4 at *
  have F8 : ∀ A A' c c' W, Ints .i64 W.heap.size W A [1, 1, 3, 3] → Ints .i64 W.heap.size W A' [(x1 : Int), (x2 : Int), (x3 : Int), (x4 : Int)] → Calls Try.prog 57 #[.int .i64 1, .slice A 4 c, .slice A' 4 c'] W (GivesB (bytesL (x1 + 2 * x2 + 4 * x3 + 32 * x4) 1) W) := fun A A' c c' W => packed_any 1 (x1 + 2 * x2 + 4 * x3 + 32 * x4) [1, 1, 3, 3] [(x1 : Int), (x2 : Int), (x3 : Int), (x4 : Int)] A A' c c' 4 4 (by omega) rfl rfl hp.2.2 hp.1 hp.2.1 (by omega) (by simp; omega) W
  rw [one_byte _ (by omega)] at F8
  generalize x1 + 2 * x2 + 4 * x3 + 32 * x4 = fl at *
  clear hp q1 q2 p1 p2 p3 p4
  go_enter Try.func60, Try.ntmps60
  go_wp2_with fail
  rw [← hW0]
  clear hW0
  have s0 := kS W0 (Below.refl _ _)
  have kSD : ∀ W, (W.cell? ⟨w.heap.size, 0, none⟩ = some (.bool oT) ∧ W.cell? ⟨w.heap.size, 1, none⟩ = some (.int .i64 oN) ∧ W.cell? ⟨w.heap.size + 1, 0, none⟩ = some (.bool nT) ∧ W.cell? ⟨w.heap.size + 1, 1, none⟩ = some (.int .i64 nN) ∧ Below (w.heap.size + 2) W0 W) → (W.drew.cell? ⟨w.heap.size, 0, none⟩ = some (.bool oT) ∧ W.drew.cell? ⟨w.heap.size, 1, none⟩ = some (.int .i64 oN) ∧ W.drew.cell? ⟨w.heap.size + 1, 0, none⟩ = some (.bool nT) ∧ W.drew.cell? ⟨w.heap.size + 1, 1, none⟩ = some (.int .i64 nN) ∧ Below (w.heap.size + 2) W0 W.drew) := fun W h => kS _ h.2.2.2.2.drew
  have kSA : ∀ W o, (W.cell? ⟨w.heap.size, 0, none⟩ = some (.bool oT) ∧ W.cell? ⟨w.heap.size, 1, none⟩ = some (.int .i64 oN) ∧ W.cell? ⟨w.heap.size + 1, 0, none⟩ = some (.bool nT) ∧ W.cell? ⟨w.heap.size + 1, 1, none⟩ = some (.int .i64 nN) ∧ Below (w.heap.size + 2) W0 W) → ((W.alloc o).cell? ⟨w.heap.size, 0, none⟩ = some (.bool oT) ∧ (W.alloc o).cell? ⟨w.heap.size, 1, none⟩ = some (.int .i64 oN) ∧ (W.alloc o).cell? ⟨w.heap.size + 1, 0, none⟩ = some (.bool nT) ∧ (W.alloc o).cell? ⟨w.heap.size + 1, 1, none⟩ = some (.int .i64 nN) ∧ Below (w.heap.size + 2) W0 (W.alloc o)) := fun W o h => kS _ (kA _ o h.2.2.2.2)
  go_region_held3 (fun w' => (w'.cell? ⟨w.heap.size, 0, none⟩ = some (.bool oT) ∧ w'.cell? ⟨w.heap.size, 1, none⟩ = some (.int .i64 oN) ∧ w'.cell? ⟨w.heap.size + 1, 0, none⟩ = some (.bool nT) ∧ w'.cell? ⟨w.heap.size + 1, 1, none⟩ = some (.int .i64 nN) ∧ Below (w.heap.size + 2) W0 w')) (first | assumption | exact kSD _ (by assumption) | exact kSA _ _ (by assumption)) (first
    | (go_at_call 70; with_reducible refine (F1 _ (by assumption)).mono ?_; rintro e w1 ⟨A1, c1, rfl, g1, k1, s1⟩)
    | (go_at_call 70; with_reducible refine (F2 _ (by assumption)).mono ?_; rintro e w2 ⟨A2, c2, rfl, g2, k2, s2⟩))
  clear F1 F2
  go_wp2_with fail
  go_region_held3 (fun w' => (w'.cell? ⟨w.heap.size, 0, none⟩ = some (.bool oT) ∧ w'.cell? ⟨w.heap.size, 1, none⟩ = some (.int .i64 oN) ∧ w'.cell? ⟨w.heap.size + 1, 0, none⟩ = some (.bool nT) ∧ w'.cell? ⟨w.heap.size + 1, 1, none⟩ = some (.int .i64 nN) ∧ Below (w.heap.size + 2) W0 w')) (first | assumption | exact kSD _ (by assumption) | exact kSA _ _ (by assumption)) (first
    | (go_at_call 71; with_reducible refine (F3 _ (by assumption)).mono ?_; rintro e w3 ⟨A3, rfl, i3, k3, s3⟩)
    | (go_at_call 72; with_reducible refine (F4 _).mono ?_; rintro e w' ⟨rfl, rfl⟩)
    | (go_at_call 72; with_reducible refine (F5 _).mono ?_; rintro e w' ⟨rfl, rfl⟩)
    | (go_at_call 73; with_reducible refine (F6 _ _ _).mono ?_; rintro e w' ⟨rfl, rfl⟩)
    | (go_at_call 73; with_reducible refine (F7 _ _ _).mono ?_; rintro e w' ⟨rfl, rfl⟩)
    | (go_at_call 57; refine (F8 _ _ _ _ _ (i3.more' _) (ints_lit .i64 w3 _ 3 _ rfl)).mono ?_; rintro e w4 ⟨v4, rfl, o4, k4⟩; have s4 := kS _ (kT _ _ (kA _ _ s3.2.2.2.2) k4)))
  clear F3 F4 F5 F6 F7 F8
  have z1 : Below w2.heap.size w2 w3 := ((Below.refl _ w2).drew).trans k3
  have G1 := ((g1.below k2).below z1).alloc (.cells (List.map (Value.int IntKind.i64) [(x1 : Int), (x2 : Int), (x3 : Int), (x4 : Int)]).toArray 3)
  have G2 := (g2.below z1).alloc (.cells (List.map (Value.int IntKind.i64) [(x1 : Int), (x2 : Int), (x3 : Int), (x4 : Int)]).toArray 3)
  have hW3 : Below w.heap.size w (w3.alloc (.cells (List.map (Value.int IntKind.i64) [(x1 : Int), (x2 : Int), (x3 : Int), (x4 : Int)]).toArray 3)) := (hw0.trans (s3.2.2.2.2.mono (by omega))).alloc (by have := hsz _ s3.2.2.2.2; omega) _
  generalize (w3.alloc (.cells (List.map (Value.int IntKind.i64) [(x1 : Int), (x2 : Int), (x3 : Int), (x4 : Int)]).toArray 3)) = W3 at *
  have G1' := G1.below k4
  clear s1 s2 s3 s4 s0 kSD kSA kA kT kS i3 k3 k2 k1 g1 g2 z1 a0 a1 b0 b1 hsz hw0 hs0
  have hll1 := Lib.hid hl1
  have hll2 := Lib.hid hl2
  clear hl1 hl2
  go_wp2_with (first
    | (at_builtin; refine wpList_appendB rfl _ _ rfl W3.heap.size v4 [(fl : Int)] rfl o4 A1 (valL oT oN) l1 c1 rfl hll1.out G1' (by rw [hll1.out]; simp; omega) k4.size W3 k4 ?_; intro v5 w5 o5 k5)
    | (at_builtin; refine wpList_appendB rfl _ _ rfl W3.heap.size v5 _ rfl o5 A2 (valL nT nN) l2 c2 rfl hll2.out (G2.below k5) (by rw [List.length_append, hll1.out, hll2.out]; simp; omega) k5.size W3 k5 ?_; intro v6 w6 o6 k6))
  go_ret
  rw [List.append_assoc] at o6
  exact ⟨v6, rfl, o6.base hW3.size, below_more hW3 k6 (Nat.le_refl _)⟩
end Go.Proofs.Ytdmkkfpbgpijjaa
namespace Go.Proofs.Ytdmkkfpbgpijjaa
open Go.RowKit Go.Deep
set_option linter.unusedVariables false

/-- A record lies in a block. -/
structure RecAt (W : World) (b : Nat) (r : RecD) : Prop where
  c0 : W.cell? ⟨b, 0, none⟩ = some (.int .i64 r.kind)
  c1 : W.cell? ⟨b, 1, none⟩ = some (.int .i64 r.tx)
  c2 : W.cell? ⟨b, 2, none⟩ = some (.int .u16 r.mask)
  c3 : W.cell? ⟨b, 3, none⟩ = some (.int .u8 r.k0)
  c4 : W.cell? ⟨b, 4, none⟩ = some (.int .u8 r.k1)
  c5 : W.cell? ⟨b, 5, none⟩ = some (.int .u8 r.k2)
  c6 : W.cell? ⟨b, 6, none⟩ = some (.int .u8 r.k3)
  c7 : W.cell? ⟨b, 7, none⟩ = some (.bool r.oT)
  c8 : W.cell? ⟨b, 8, none⟩ = some (.int .i64 r.oN)
  c9 : W.cell? ⟨b, 9, none⟩ = some (.bool r.nT)
  c10 : W.cell? ⟨b, 10, none⟩ = some (.int .i64 r.nN)
theorem recAt_new (w : World) (r : RecD) : RecAt (w.alloc (.cells (recA r) 48)) w.heap.size r := by
  have h := fun i v hi => cell_of_row (w.alloc (.cells (recA r) 48)) w.heap.size i v 48 (0, 0) hi
  constructor <;> exact h _ _ (heap_alloc_new w _)
theorem RecAt.below {W W' : World} {b B : Nat} {r : RecD} (h : RecAt W b r) (hb : Below B W W') (hB : b < B) : RecAt W' b r :=
  have k : ∀ i, W'.cell? ⟨b, i, none⟩ = W.cell? ⟨b, i, none⟩ := fun i => hb.cell (p := ⟨b, i, none⟩) hB
  ⟨(k 0).trans h.c0, (k 1).trans h.c1, (k 2).trans h.c2, (k 3).trans h.c3, (k 4).trans h.c4, (k 5).trans h.c5, (k 6).trans h.c6, (k 7).trans h.c7, (k 8).trans h.c8, (k 9).trans h.c9, (k 10).trans h.c10⟩
theorem RecAt.lt {W : World} {b : Nat} {r : RecD} (h : RecAt W b r) : b < W.heap.size := World.block_lt_of_cell? W _ h.c0
theorem RecAt.key {W : World} {b : Nat} {r : RecD} (h : RecAt W b r) : Good (some ⟨b, 3, none⟩) 4 [r.k0, r.k1, r.k2, r.k3] W := by
  refine ⟨fun _ => ⟨b, 3, rfl, h.lt, fun j hj => ?_⟩, by simp, fun e => by cases e⟩
  match j, hj with
  | 0, _ => exact h.c3
  | 1, _ => exact h.c4
  | 2, _ => exact h.c5
  | 3, _ => exact h.c6
theorem ints_two (k : IntKind) (w : World) (a b : Int) (t : TypeId) : Ints k (w.alloc (.cells #[.int k a, .int k b] t)).heap.size (w.alloc (.cells #[.int k a, .int k b] t)) (some ⟨w.heap.size, 0, none⟩) [a, b] := ints_lit k w [a, b] t _ rfl
theorem ints_two_drew (k : IntKind) (w : World) (a b : Int) (t : TypeId) : Ints k (w.alloc (.cells #[.int k a, .int k b] t)).drew.heap.size (w.alloc (.cells #[.int k a, .int k b] t)).drew (some ⟨w.heap.size, 0, none⟩) [a, b] := ints_two k w a b t
theorem right_bd (r : RecD) (h : rightB r = true) : 1 ≤ r.kind ∧ r.kind ≤ 8 ∧ 0 ≤ r.tx ∧ r.tx ≤ 1048576 := by
  unfold rightB at h
  split at h
  · simp [okTx] at h; omega
  · split at h
    · simp [okTx] at h; omega
    · split at h
      · simp [okTx] at h; omega
      · split at h
        · simp [eqR] at h; omega
        · split at h
          · simp [eqR] at h; omega
          · cases h
theorem headN_lt (r : RecD) (h : rightB r = true) : headN r < 16777216 := by
  have := right_bd r h
  unfold headN; omega

def EncSays (r : RecD) (w : World) (e : Ending) (w' : World) : Prop := ∃ v, e = .returned (.tuple #[v, .bool true]) ∧ Owns w.heap.size w' v (encL r) ∧ Below w.heap.size w w'
set_option maxRecDepth 100000 in
set_option maxHeartbeats 2000000 in
theorem enc_plain (r : RecD) (hr : rightB r = true) (ok : okR r) (h2 : (r.kind == 2) = false) (h8 : (r.kind == 8) = false) (h1 : (r.kind == 1) = false) (h7 : (r.kind == 7) = false) (w : World) : Calls Try.prog 47 #[recV r] w (EncSays r w) := by
  have hbd := right_bd r hr
  have hlt := headN_lt r hr
  have c0 : ∀ W, Calls Try.prog 56 #[.agg #[.int .i64 r.kind, .int .i64 r.tx, .int .u16 r.mask, .int .u8 r.k0, .int .u8 r.k1, .int .u8 r.k2, .int .u8 r.k3, .bool r.oT, .int .i64 r.oN, .bool r.nT, .int .i64 r.nN]] W fun e w' => e = .returned (.bool true) ∧ Below W.heap.size W w' := fun W => right_any r true hr W
  obtain ⟨W0, hW0⟩ : ∃ W0, W0 = w.alloc (.cells #[.int .i64 r.kind, .int .i64 r.tx, .int .u16 r.mask, .int .u8 r.k0, .int .u8 r.k1, .int .u8 r.k2, .int .u8 r.k3, .bool r.oT, .int .i64 r.oN, .bool r.nT, .int .i64 r.nN] 48) := ⟨_, rfl⟩
  have hR0 : RecAt W0 w.heap.size r := by rw [hW0]; exact recAt_new w r
  have hs0 : W0.heap.size = w.heap.size + 1 := by rw [hW0]; simp
  have hw0 : Below w.heap.size w W0 := by rw [hW0]; exact (Below.refl _ _).alloc (Nat.le_refl _) _
  have kS : ∀ W, Below (w.heap.size + 1) W0 W → (W.cell? ⟨w.heap.size, 0, none⟩ = some (.int .i64 r.kind) ∧ W.cell? ⟨w.heap.size, 1, none⟩ = some (.int .i64 r.tx) ∧ Below (w.heap.size + 1) W0 W) := fun W hb => have h := hR0.below hb (by omega); ⟨h.c0, h.c1, hb⟩
  have hsz : ∀ W, Below (w.heap.size + 1) W0 W → w.heap.size + 1 ≤ W.heap.size := fun W hb => by have := hb.size; omega
  have kA : ∀ W o, Below (w.heap.size + 1) W0 W → Below (w.heap.size + 1) W0 (W.alloc o) := fun W o hb => hb.alloc (hsz W hb) o
  have kT : ∀ W W', Below (w.heap.size + 1) W0 W → Below W.heap.size W W' → Below (w.heap.size + 1) W0 W' := fun W W' hb hk => hb.trans (hk.mono (hsz W hb))
  have kSD : ∀ W, (W.cell? ⟨w.heap.size, 0, none⟩ = some (.int .i64 r.kind) ∧ W.cell? ⟨w.heap.size, 1, none⟩ = some (.int .i64 r.tx) ∧ Below (w.heap.size + 1) W0 W) → (W.drew.cell? ⟨w.heap.size, 0, none⟩ = some (.int .i64 r.kind) ∧ W.drew.cell? ⟨w.heap.size, 1, none⟩ = some (.int .i64 r.tx) ∧ Below (w.heap.size + 1) W0 W.drew) := fun W h => kS _ h.2.2.drew
  have kSA : ∀ W o, (W.cell? ⟨w.heap.size, 0, none⟩ = some (.int .i64 r.kind) ∧ W.cell? ⟨w.heap.size, 1, none⟩ = some (.int .i64 r.tx) ∧ Below (w.heap.size + 1) W0 W) → ((W.alloc o).cell? ⟨w.heap.size, 0, none⟩ = some (.int .i64 r.kind) ∧ (W.alloc o).cell? ⟨w.heap.size, 1, none⟩ = some (.int .i64 r.tx) ∧ Below (w.heap.size + 1) W0 (W.alloc o)) := fun W o h => kS _ (kA _ o h.2.2)
  have hp := head_pack r.kind r.tx hbd.1 hbd.2.1 hbd.2.2.1 hbd.2.2.2
  have F1 : ∀ W, (W.cell? ⟨w.heap.size, 0, none⟩ = some (.int .i64 r.kind) ∧ W.cell? ⟨w.heap.size, 1, none⟩ = some (.int .i64 r.tx) ∧ Below (w.heap.size + 1) W0 W) → Calls Try.prog 58 #[] W fun e w' => ∃ A, e = .returned (.slice A 2 2) ∧ Ints .i64 w'.heap.size w' A [3, 21] ∧ Below W.heap.size W w' ∧ (w'.cell? ⟨w.heap.size, 0, none⟩ = some (.int .i64 r.kind) ∧ w'.cell? ⟨w.heap.size, 1, none⟩ = some (.int .i64 r.tx) ∧ Below (w.heap.size + 1) W0 w') := fun W h => by
    refine (headWidths_any W).mono ?_
    rintro e w' ⟨rfl, i, k⟩
    exact ⟨_, rfl, i, k, kS _ (kT _ _ h.2.2 k)⟩
  have F2 : ∀ A A' c c' W, Ints .i64 W.heap.size W A [3, 21] → Ints .i64 W.heap.size W A' [r.kind - 1, r.tx] → Calls Try.prog 57 #[.int .i64 3, .slice A 2 c, .slice A' 2 c'] W (GivesB (bytesL (headN r) 3) W) := fun A A' c c' W =>
    packed_any 3 (headN r) [3, 21] [r.kind - 1, r.tx] A A' c c' 2 2 (by omega) rfl rfl hp.2.2 hp.1 hp.2.1 (by omega) (by simp; omega) W
  have he : encL r = bytesL (headN r) 3 := by
    simp at h2 h8 h1 h7
    simp [encL, tailL, h2, h8, h1, h7]
  unfold EncSays
  rw [he]
  have hhl : (bytesL (headN r) 3).length = 3 := bytesL_length _ _
  generalize bytesL (headN r) 3 = hd at *
  have hid := Lib.hid hhl
  clear hhl he
  obtain ⟨hbd1, hbd2, hbd3, hbd4⟩ := hbd
  clear hp hr ok hlt
  rw [recV_eq]
  go_enter Try.func47, Try.ntmps47
  go_wp2_with fail
  refine (c0 _).mono ?_
  rintro e w1 ⟨rfl, b1⟩
  rw [← hW0] at b1
  have s1 := kS _ (b1.mono (by omega))
  clear hW0 c0
  go_wp2_with fail
  have hwr : IntKind.i64.wrap (r.kind - 1) = r.kind - 1 := IntWalk.i64_in _ (by omega)
  go_region_held3 (fun w' => (w'.cell? ⟨w.heap.size, 0, none⟩ = some (.int .i64 r.kind) ∧ w'.cell? ⟨w.heap.size, 1, none⟩ = some (.int .i64 r.tx) ∧ Below (w.heap.size + 1) W0 w')) (first | assumption | exact kSD _ (by assumption) | exact kSA _ _ (by assumption)) (first
    | (go_at_call 58; (with_reducible refine (F1 _ (by first | assumption | exact kSD _ (by assumption) | exact kSA _ _ (by assumption))).mono ?_); rintro e w3 ⟨A3, rfl, i3, k3, s3⟩)
    | (go_at_call 57; (with_reducible refine (F2 _ _ _ _ _ (i3.more' _) (ints_two .i64 w3 _ _ 3)).mono ?_); rintro e w4 ⟨v4, rfl, o4, k4⟩; have hX := kA w3 (.cells #[.int .i64 (r.kind - 1), .int .i64 r.tx] 3) s3.2.2; have s4 := kS _ (kT _ _ hX k4))
    | (go_at_call 57; (with_reducible refine (F2 _ _ _ _ _ i3 (((ints_two_drew .i64 _ _ _ 3).below k3 (Nat.le_refl _)).more k3.size)).mono ?_); rintro e w4 ⟨v4, rfl, o4, k4⟩; have hX := s3.2.2; have s4 := kS _ (kT _ _ hX k4)))
  all_goals
    clear F1 F2 hwr
    obtain ⟨X, o4, k4, hX⟩ : ∃ X : World, Owns X.heap.size w4 v4 hd ∧ Below X.heap.size X w4 ∧ Below (w.heap.size + 1) W0 X := ⟨_, o4, k4, hX⟩
    have RX := hR0.below hX (by omega)
    have hXs := hsz _ hX
    have hXw : Below w.heap.size w X := hw0.trans (hX.mono (by omega))
    clear s1 s3 s4 kSD kSA kA kT kS hsz i3 k3 b1 hR0 hX hw0
    have RW := RX.below k4 (by omega)
    have ck := RW.c0
    clear RW
    go_wp2
    go_ret2
    exact ⟨v4, rfl, o4.base hXw.size, below_more hXw k4 (Nat.le_refl _)⟩
set_option maxRecDepth 100000 in
set_option maxHeartbeats 2000000 in
theorem enc_2 (r : RecD) (hr : rightB r = true) (ok : okR r) (h2 : (r.kind == 2) = true) (w : World) : Calls Try.prog 47 #[recV r] w (EncSays r w) := by
  have hbd := right_bd r hr
  have hlt := headN_lt r hr
  have c0 : ∀ W, Calls Try.prog 56 #[.agg #[.int .i64 r.kind, .int .i64 r.tx, .int .u16 r.mask, .int .u8 r.k0, .int .u8 r.k1, .int .u8 r.k2, .int .u8 r.k3, .bool r.oT, .int .i64 r.oN, .bool r.nT, .int .i64 r.nN]] W fun e w' => e = .returned (.bool true) ∧ Below W.heap.size W w' := fun W => right_any r true hr W
  obtain ⟨W0, hW0⟩ : ∃ W0, W0 = w.alloc (.cells #[.int .i64 r.kind, .int .i64 r.tx, .int .u16 r.mask, .int .u8 r.k0, .int .u8 r.k1, .int .u8 r.k2, .int .u8 r.k3, .bool r.oT, .int .i64 r.oN, .bool r.nT, .int .i64 r.nN] 48) := ⟨_, rfl⟩
  have hR0 : RecAt W0 w.heap.size r := by rw [hW0]; exact recAt_new w r
  have hs0 : W0.heap.size = w.heap.size + 1 := by rw [hW0]; simp
  have hw0 : Below w.heap.size w W0 := by rw [hW0]; exact (Below.refl _ _).alloc (Nat.le_refl _) _
  have kS : ∀ W, Below (w.heap.size + 1) W0 W → (W.cell? ⟨w.heap.size, 0, none⟩ = some (.int .i64 r.kind) ∧ W.cell? ⟨w.heap.size, 1, none⟩ = some (.int .i64 r.tx) ∧ Below (w.heap.size + 1) W0 W) := fun W hb => have h := hR0.below hb (by omega); ⟨h.c0, h.c1, hb⟩
  have hsz : ∀ W, Below (w.heap.size + 1) W0 W → w.heap.size + 1 ≤ W.heap.size := fun W hb => by have := hb.size; omega
  have kA : ∀ W o, Below (w.heap.size + 1) W0 W → Below (w.heap.size + 1) W0 (W.alloc o) := fun W o hb => hb.alloc (hsz W hb) o
  have kT : ∀ W W', Below (w.heap.size + 1) W0 W → Below W.heap.size W W' → Below (w.heap.size + 1) W0 W' := fun W W' hb hk => hb.trans (hk.mono (hsz W hb))
  have kSD : ∀ W, (W.cell? ⟨w.heap.size, 0, none⟩ = some (.int .i64 r.kind) ∧ W.cell? ⟨w.heap.size, 1, none⟩ = some (.int .i64 r.tx) ∧ Below (w.heap.size + 1) W0 W) → (W.drew.cell? ⟨w.heap.size, 0, none⟩ = some (.int .i64 r.kind) ∧ W.drew.cell? ⟨w.heap.size, 1, none⟩ = some (.int .i64 r.tx) ∧ Below (w.heap.size + 1) W0 W.drew) := fun W h => kS _ h.2.2.drew
  have kSA : ∀ W o, (W.cell? ⟨w.heap.size, 0, none⟩ = some (.int .i64 r.kind) ∧ W.cell? ⟨w.heap.size, 1, none⟩ = some (.int .i64 r.tx) ∧ Below (w.heap.size + 1) W0 W) → ((W.alloc o).cell? ⟨w.heap.size, 0, none⟩ = some (.int .i64 r.kind) ∧ (W.alloc o).cell? ⟨w.heap.size, 1, none⟩ = some (.int .i64 r.tx) ∧ Below (w.heap.size + 1) W0 (W.alloc o)) := fun W o h => kS _ (kA _ o h.2.2)
  have hp := head_pack r.kind r.tx hbd.1 hbd.2.1 hbd.2.2.1 hbd.2.2.2
  have F1 : ∀ W, (W.cell? ⟨w.heap.size, 0, none⟩ = some (.int .i64 r.kind) ∧ W.cell? ⟨w.heap.size, 1, none⟩ = some (.int .i64 r.tx) ∧ Below (w.heap.size + 1) W0 W) → Calls Try.prog 58 #[] W fun e w' => ∃ A, e = .returned (.slice A 2 2) ∧ Ints .i64 w'.heap.size w' A [3, 21] ∧ Below W.heap.size W w' ∧ (w'.cell? ⟨w.heap.size, 0, none⟩ = some (.int .i64 r.kind) ∧ w'.cell? ⟨w.heap.size, 1, none⟩ = some (.int .i64 r.tx) ∧ Below (w.heap.size + 1) W0 w') := fun W h => by
    refine (headWidths_any W).mono ?_
    rintro e w' ⟨rfl, i, k⟩
    exact ⟨_, rfl, i, k, kS _ (kT _ _ h.2.2 k)⟩
  have F2 : ∀ A A' c c' W, Ints .i64 W.heap.size W A [3, 21] → Ints .i64 W.heap.size W A' [r.kind - 1, r.tx] → Calls Try.prog 57 #[.int .i64 3, .slice A 2 c, .slice A' 2 c'] W (GivesB (bytesL (headN r) 3) W) := fun A A' c c' W =>
    packed_any 3 (headN r) [3, 21] [r.kind - 1, r.tx] A A' c c' 2 2 (by omega) rfl rfl hp.2.2 hp.1 hp.2.1 (by omega) (by simp; omega) W
  have he : encL r = bytesL (headN r) 3 ++ bytesL r.mask 2 := by
    simp at *
    simp [encL, tailL, *]
  unfold EncSays
  rw [he]
  have hmk := ok.mask
  have F3 : ∀ W, Calls Try.prog 59 #[.int .u64 r.mask, .int .i64 2] W (GivesB (bytesL r.mask 2) W) := fun W => bytes_owns r.mask (by omega) 2 (by omega) (by simp; omega) W
  have hl2 : (bytesL r.mask 2).length = 2 := bytesL_length _ _
  have HL2 := Lib.hid hl2
  clear hl2
  generalize bytesL r.mask 2 = ms at *
  have hhl : (bytesL (headN r) 3).length = 3 := bytesL_length _ _
  generalize bytesL (headN r) 3 = hd at *
  have hid := Lib.hid hhl
  clear hhl he
  obtain ⟨hbd1, hbd2, hbd3, hbd4⟩ := hbd
  clear hp hr ok hlt
  rw [recV_eq]
  go_enter Try.func47, Try.ntmps47
  go_wp2_with fail
  refine (c0 _).mono ?_
  rintro e w1 ⟨rfl, b1⟩
  rw [← hW0] at b1
  have s1 := kS _ (b1.mono (by omega))
  clear hW0 c0
  go_wp2_with fail
  have hwr : IntKind.i64.wrap (r.kind - 1) = r.kind - 1 := IntWalk.i64_in _ (by omega)
  go_region_held3 (fun w' => (w'.cell? ⟨w.heap.size, 0, none⟩ = some (.int .i64 r.kind) ∧ w'.cell? ⟨w.heap.size, 1, none⟩ = some (.int .i64 r.tx) ∧ Below (w.heap.size + 1) W0 w')) (first | assumption | exact kSD _ (by assumption) | exact kSA _ _ (by assumption)) (first
    | (go_at_call 58; (with_reducible refine (F1 _ (by first | assumption | exact kSD _ (by assumption) | exact kSA _ _ (by assumption))).mono ?_); rintro e w3 ⟨A3, rfl, i3, k3, s3⟩)
    | (go_at_call 57; (with_reducible refine (F2 _ _ _ _ _ (i3.more' _) (ints_two .i64 w3 _ _ 3)).mono ?_); rintro e w4 ⟨v4, rfl, o4, k4⟩; have hX := kA w3 (.cells #[.int .i64 (r.kind - 1), .int .i64 r.tx] 3) s3.2.2; have s4 := kS _ (kT _ _ hX k4))
    | (go_at_call 57; (with_reducible refine (F2 _ _ _ _ _ i3 (((ints_two_drew .i64 _ _ _ 3).below k3 (Nat.le_refl _)).more k3.size)).mono ?_); rintro e w4 ⟨v4, rfl, o4, k4⟩; have hX := s3.2.2; have s4 := kS _ (kT _ _ hX k4)))
  all_goals
    clear F1 F2 hwr
    obtain ⟨X, o4, k4, hX⟩ : ∃ X : World, Owns X.heap.size w4 v4 hd ∧ Below X.heap.size X w4 ∧ Below (w.heap.size + 1) W0 X := ⟨_, o4, k4, hX⟩
    have RX := hR0.below hX (by omega)
    have hXs := hsz _ hX
    have hXw : Below w.heap.size w X := hw0.trans (hX.mono (by omega))
    clear s1 s3 s4 kSD kSA kA kT kS hsz i3 k3 b1 hR0 hX hw0
    have RW := RX.below k4 (by omega)
    have ck := RW.c0
    have cm := RW.c2
    clear RW
    go_wp2_with fail
    refine (F3 _).mono ?_
    rintro e w5 ⟨v5, rfl, o5, k5⟩
    obtain ⟨A5, c5, rfl, g5⟩ := o5.good
    rw [HL2.out]
    have o4' := o4.below k5
    have k4' := below_more k4 k5 (Nat.le_refl _)
    clear F3
    go_wp2_with (at_builtin; refine wpList_appendB rfl _ _ rfl X.heap.size v4 hd rfl o4' A5 ms 2 c5 rfl HL2.out g5 (by rw [hid.out, HL2.out]; omega) k4'.size X k4' ?_; intro v6 w6 o6 k6)
    go_ret2
    exact ⟨v6, rfl, o6.base hXw.size, below_more hXw k6 (Nat.le_refl _)⟩
set_option maxRecDepth 100000 in
set_option maxHeartbeats 2000000 in
theorem enc_8 (r : RecD) (hr : rightB r = true) (ok : okR r) (h2 : (r.kind == 2) = false) (h8 : (r.kind == 8) = true) (w : World) : Calls Try.prog 47 #[recV r] w (EncSays r w) := by
  have hbd := right_bd r hr
  have hlt := headN_lt r hr
  have c0 : ∀ W, Calls Try.prog 56 #[.agg #[.int .i64 r.kind, .int .i64 r.tx, .int .u16 r.mask, .int .u8 r.k0, .int .u8 r.k1, .int .u8 r.k2, .int .u8 r.k3, .bool r.oT, .int .i64 r.oN, .bool r.nT, .int .i64 r.nN]] W fun e w' => e = .returned (.bool true) ∧ Below W.heap.size W w' := fun W => right_any r true hr W
  obtain ⟨W0, hW0⟩ : ∃ W0, W0 = w.alloc (.cells #[.int .i64 r.kind, .int .i64 r.tx, .int .u16 r.mask, .int .u8 r.k0, .int .u8 r.k1, .int .u8 r.k2, .int .u8 r.k3, .bool r.oT, .int .i64 r.oN, .bool r.nT, .int .i64 r.nN] 48) := ⟨_, rfl⟩
  have hR0 : RecAt W0 w.heap.size r := by rw [hW0]; exact recAt_new w r
  have hs0 : W0.heap.size = w.heap.size + 1 := by rw [hW0]; simp
  have hw0 : Below w.heap.size w W0 := by rw [hW0]; exact (Below.refl _ _).alloc (Nat.le_refl _) _
  have kS : ∀ W, Below (w.heap.size + 1) W0 W → (W.cell? ⟨w.heap.size, 0, none⟩ = some (.int .i64 r.kind) ∧ W.cell? ⟨w.heap.size, 1, none⟩ = some (.int .i64 r.tx) ∧ Below (w.heap.size + 1) W0 W) := fun W hb => have h := hR0.below hb (by omega); ⟨h.c0, h.c1, hb⟩
  have hsz : ∀ W, Below (w.heap.size + 1) W0 W → w.heap.size + 1 ≤ W.heap.size := fun W hb => by have := hb.size; omega
  have kA : ∀ W o, Below (w.heap.size + 1) W0 W → Below (w.heap.size + 1) W0 (W.alloc o) := fun W o hb => hb.alloc (hsz W hb) o
  have kT : ∀ W W', Below (w.heap.size + 1) W0 W → Below W.heap.size W W' → Below (w.heap.size + 1) W0 W' := fun W W' hb hk => hb.trans (hk.mono (hsz W hb))
  have kSD : ∀ W, (W.cell? ⟨w.heap.size, 0, none⟩ = some (.int .i64 r.kind) ∧ W.cell? ⟨w.heap.size, 1, none⟩ = some (.int .i64 r.tx) ∧ Below (w.heap.size + 1) W0 W) → (W.drew.cell? ⟨w.heap.size, 0, none⟩ = some (.int .i64 r.kind) ∧ W.drew.cell? ⟨w.heap.size, 1, none⟩ = some (.int .i64 r.tx) ∧ Below (w.heap.size + 1) W0 W.drew) := fun W h => kS _ h.2.2.drew
  have kSA : ∀ W o, (W.cell? ⟨w.heap.size, 0, none⟩ = some (.int .i64 r.kind) ∧ W.cell? ⟨w.heap.size, 1, none⟩ = some (.int .i64 r.tx) ∧ Below (w.heap.size + 1) W0 W) → ((W.alloc o).cell? ⟨w.heap.size, 0, none⟩ = some (.int .i64 r.kind) ∧ (W.alloc o).cell? ⟨w.heap.size, 1, none⟩ = some (.int .i64 r.tx) ∧ Below (w.heap.size + 1) W0 (W.alloc o)) := fun W o h => kS _ (kA _ o h.2.2)
  have hp := head_pack r.kind r.tx hbd.1 hbd.2.1 hbd.2.2.1 hbd.2.2.2
  have F1 : ∀ W, (W.cell? ⟨w.heap.size, 0, none⟩ = some (.int .i64 r.kind) ∧ W.cell? ⟨w.heap.size, 1, none⟩ = some (.int .i64 r.tx) ∧ Below (w.heap.size + 1) W0 W) → Calls Try.prog 58 #[] W fun e w' => ∃ A, e = .returned (.slice A 2 2) ∧ Ints .i64 w'.heap.size w' A [3, 21] ∧ Below W.heap.size W w' ∧ (w'.cell? ⟨w.heap.size, 0, none⟩ = some (.int .i64 r.kind) ∧ w'.cell? ⟨w.heap.size, 1, none⟩ = some (.int .i64 r.tx) ∧ Below (w.heap.size + 1) W0 w') := fun W h => by
    refine (headWidths_any W).mono ?_
    rintro e w' ⟨rfl, i, k⟩
    exact ⟨_, rfl, i, k, kS _ (kT _ _ h.2.2 k)⟩
  have F2 : ∀ A A' c c' W, Ints .i64 W.heap.size W A [3, 21] → Ints .i64 W.heap.size W A' [r.kind - 1, r.tx] → Calls Try.prog 57 #[.int .i64 3, .slice A 2 c, .slice A' 2 c'] W (GivesB (bytesL (headN r) 3) W) := fun A A' c c' W =>
    packed_any 3 (headN r) [3, 21] [r.kind - 1, r.tx] A A' c c' 2 2 (by omega) rfl rfl hp.2.2 hp.1 hp.2.1 (by omega) (by simp; omega) W
  have he : encL r = bytesL (headN r) 3 ++ bytesL r.mask 2 := by
    simp at *
    simp [encL, tailL, *]
  unfold EncSays
  rw [he]
  have hmk := ok.mask
  have F3 : ∀ W, Calls Try.prog 59 #[.int .u64 r.mask, .int .i64 2] W (GivesB (bytesL r.mask 2) W) := fun W => bytes_owns r.mask (by omega) 2 (by omega) (by simp; omega) W
  have hl2 : (bytesL r.mask 2).length = 2 := bytesL_length _ _
  have HL2 := Lib.hid hl2
  clear hl2
  generalize bytesL r.mask 2 = ms at *
  have hhl : (bytesL (headN r) 3).length = 3 := bytesL_length _ _
  generalize bytesL (headN r) 3 = hd at *
  have hid := Lib.hid hhl
  clear hhl he
  obtain ⟨hbd1, hbd2, hbd3, hbd4⟩ := hbd
  clear hp hr ok hlt
  rw [recV_eq]
  go_enter Try.func47, Try.ntmps47
  go_wp2_with fail
  refine (c0 _).mono ?_
  rintro e w1 ⟨rfl, b1⟩
  rw [← hW0] at b1
  have s1 := kS _ (b1.mono (by omega))
  clear hW0 c0
  go_wp2_with fail
  have hwr : IntKind.i64.wrap (r.kind - 1) = r.kind - 1 := IntWalk.i64_in _ (by omega)
  go_region_held3 (fun w' => (w'.cell? ⟨w.heap.size, 0, none⟩ = some (.int .i64 r.kind) ∧ w'.cell? ⟨w.heap.size, 1, none⟩ = some (.int .i64 r.tx) ∧ Below (w.heap.size + 1) W0 w')) (first | assumption | exact kSD _ (by assumption) | exact kSA _ _ (by assumption)) (first
    | (go_at_call 58; (with_reducible refine (F1 _ (by first | assumption | exact kSD _ (by assumption) | exact kSA _ _ (by assumption))).mono ?_); rintro e w3 ⟨A3, rfl, i3, k3, s3⟩)
    | (go_at_call 57; (with_reducible refine (F2 _ _ _ _ _ (i3.more' _) (ints_two .i64 w3 _ _ 3)).mono ?_); rintro e w4 ⟨v4, rfl, o4, k4⟩; have hX := kA w3 (.cells #[.int .i64 (r.kind - 1), .int .i64 r.tx] 3) s3.2.2; have s4 := kS _ (kT _ _ hX k4))
    | (go_at_call 57; (with_reducible refine (F2 _ _ _ _ _ i3 (((ints_two_drew .i64 _ _ _ 3).below k3 (Nat.le_refl _)).more k3.size)).mono ?_); rintro e w4 ⟨v4, rfl, o4, k4⟩; have hX := s3.2.2; have s4 := kS _ (kT _ _ hX k4)))
  all_goals
    clear F1 F2 hwr
    obtain ⟨X, o4, k4, hX⟩ : ∃ X : World, Owns X.heap.size w4 v4 hd ∧ Below X.heap.size X w4 ∧ Below (w.heap.size + 1) W0 X := ⟨_, o4, k4, hX⟩
    have RX := hR0.below hX (by omega)
    have hXs := hsz _ hX
    have hXw : Below w.heap.size w X := hw0.trans (hX.mono (by omega))
    clear s1 s3 s4 kSD kSA kA kT kS hsz i3 k3 b1 hR0 hX hw0
    have RW := RX.below k4 (by omega)
    have ck := RW.c0
    have cm := RW.c2
    clear RW
    go_wp2_with fail
    refine (F3 _).mono ?_
    rintro e w5 ⟨v5, rfl, o5, k5⟩
    obtain ⟨A5, c5, rfl, g5⟩ := o5.good
    rw [HL2.out]
    have o4' := o4.below k5
    have k4' := below_more k4 k5 (Nat.le_refl _)
    clear F3
    go_wp2_with (at_builtin; refine wpList_appendB rfl _ _ rfl X.heap.size v4 hd rfl o4' A5 ms 2 c5 rfl HL2.out g5 (by rw [hid.out, HL2.out]; omega) k4'.size X k4' ?_; intro v6 w6 o6 k6)
    go_ret2
    exact ⟨v6, rfl, o6.base hXw.size, below_more hXw k6 (Nat.le_refl _)⟩
set_option maxRecDepth 100000 in
set_option maxHeartbeats 2000000 in
theorem enc_1 (r : RecD) (hr : rightB r = true) (ok : okR r) (h2 : (r.kind == 2) = false) (h8 : (r.kind == 8) = false) (h1 : (r.kind == 1) = true) (w : World) : Calls Try.prog 47 #[recV r] w (EncSays r w) := by
  have hbd := right_bd r hr
  have hlt := headN_lt r hr
  have c0 : ∀ W, Calls Try.prog 56 #[.agg #[.int .i64 r.kind, .int .i64 r.tx, .int .u16 r.mask, .int .u8 r.k0, .int .u8 r.k1, .int .u8 r.k2, .int .u8 r.k3, .bool r.oT, .int .i64 r.oN, .bool r.nT, .int .i64 r.nN]] W fun e w' => e = .returned (.bool true) ∧ Below W.heap.size W w' := fun W => right_any r true hr W
  obtain ⟨W0, hW0⟩ : ∃ W0, W0 = w.alloc (.cells #[.int .i64 r.kind, .int .i64 r.tx, .int .u16 r.mask, .int .u8 r.k0, .int .u8 r.k1, .int .u8 r.k2, .int .u8 r.k3, .bool r.oT, .int .i64 r.oN, .bool r.nT, .int .i64 r.nN] 48) := ⟨_, rfl⟩
  have hR0 : RecAt W0 w.heap.size r := by rw [hW0]; exact recAt_new w r
  have hs0 : W0.heap.size = w.heap.size + 1 := by rw [hW0]; simp
  have hw0 : Below w.heap.size w W0 := by rw [hW0]; exact (Below.refl _ _).alloc (Nat.le_refl _) _
  have kS : ∀ W, Below (w.heap.size + 1) W0 W → (W.cell? ⟨w.heap.size, 0, none⟩ = some (.int .i64 r.kind) ∧ W.cell? ⟨w.heap.size, 1, none⟩ = some (.int .i64 r.tx) ∧ Below (w.heap.size + 1) W0 W) := fun W hb => have h := hR0.below hb (by omega); ⟨h.c0, h.c1, hb⟩
  have hsz : ∀ W, Below (w.heap.size + 1) W0 W → w.heap.size + 1 ≤ W.heap.size := fun W hb => by have := hb.size; omega
  have kA : ∀ W o, Below (w.heap.size + 1) W0 W → Below (w.heap.size + 1) W0 (W.alloc o) := fun W o hb => hb.alloc (hsz W hb) o
  have kT : ∀ W W', Below (w.heap.size + 1) W0 W → Below W.heap.size W W' → Below (w.heap.size + 1) W0 W' := fun W W' hb hk => hb.trans (hk.mono (hsz W hb))
  have kSD : ∀ W, (W.cell? ⟨w.heap.size, 0, none⟩ = some (.int .i64 r.kind) ∧ W.cell? ⟨w.heap.size, 1, none⟩ = some (.int .i64 r.tx) ∧ Below (w.heap.size + 1) W0 W) → (W.drew.cell? ⟨w.heap.size, 0, none⟩ = some (.int .i64 r.kind) ∧ W.drew.cell? ⟨w.heap.size, 1, none⟩ = some (.int .i64 r.tx) ∧ Below (w.heap.size + 1) W0 W.drew) := fun W h => kS _ h.2.2.drew
  have kSA : ∀ W o, (W.cell? ⟨w.heap.size, 0, none⟩ = some (.int .i64 r.kind) ∧ W.cell? ⟨w.heap.size, 1, none⟩ = some (.int .i64 r.tx) ∧ Below (w.heap.size + 1) W0 W) → ((W.alloc o).cell? ⟨w.heap.size, 0, none⟩ = some (.int .i64 r.kind) ∧ (W.alloc o).cell? ⟨w.heap.size, 1, none⟩ = some (.int .i64 r.tx) ∧ Below (w.heap.size + 1) W0 (W.alloc o)) := fun W o h => kS _ (kA _ o h.2.2)
  have hp := head_pack r.kind r.tx hbd.1 hbd.2.1 hbd.2.2.1 hbd.2.2.2
  have F1 : ∀ W, (W.cell? ⟨w.heap.size, 0, none⟩ = some (.int .i64 r.kind) ∧ W.cell? ⟨w.heap.size, 1, none⟩ = some (.int .i64 r.tx) ∧ Below (w.heap.size + 1) W0 W) → Calls Try.prog 58 #[] W fun e w' => ∃ A, e = .returned (.slice A 2 2) ∧ Ints .i64 w'.heap.size w' A [3, 21] ∧ Below W.heap.size W w' ∧ (w'.cell? ⟨w.heap.size, 0, none⟩ = some (.int .i64 r.kind) ∧ w'.cell? ⟨w.heap.size, 1, none⟩ = some (.int .i64 r.tx) ∧ Below (w.heap.size + 1) W0 w') := fun W h => by
    refine (headWidths_any W).mono ?_
    rintro e w' ⟨rfl, i, k⟩
    exact ⟨_, rfl, i, k, kS _ (kT _ _ h.2.2 k)⟩
  have F2 : ∀ A A' c c' W, Ints .i64 W.heap.size W A [3, 21] → Ints .i64 W.heap.size W A' [r.kind - 1, r.tx] → Calls Try.prog 57 #[.int .i64 3, .slice A 2 c, .slice A' 2 c'] W (GivesB (bytesL (headN r) 3) W) := fun A A' c c' W =>
    packed_any 3 (headN r) [3, 21] [r.kind - 1, r.tx] A A' c c' 2 2 (by omega) rfl rfl hp.2.2 hp.1 hp.2.1 (by omega) (by simp; omega) W
  have he : encL r = bytesL (headN r) 3 ++ [r.k0, r.k1, r.k2, r.k3] ++ valsL r.oT r.oN r.nT r.nN := by
    simp at *
    simp [encL, tailL, valsL, flagsN, *]
  unfold EncSays
  rw [he]
  have F3 := fun W => valsBytes_any r.oT r.oN r.nT r.nN ok.oN ok.nN W
  have hvl : (valsL r.oT r.oN r.nT r.nN).length ≤ 17 := by
    have := valL_le r.oT r.oN
    have := valL_le r.nT r.nN
    simp [valsL]; omega
  obtain ⟨l5, hl5⟩ : ∃ l5, (valsL r.oT r.oN r.nT r.nN).length = l5 := ⟨_, rfl⟩
  rw [hl5] at hvl
  have HL5 := Lib.hid hl5
  clear hl5
  generalize valsL r.oT r.oN r.nT r.nN = vl at *
  have hhl : (bytesL (headN r) 3).length = 3 := bytesL_length _ _
  generalize bytesL (headN r) 3 = hd at *
  have hid := Lib.hid hhl
  clear hhl he
  obtain ⟨hbd1, hbd2, hbd3, hbd4⟩ := hbd
  clear hp hr ok hlt
  rw [recV_eq]
  go_enter Try.func47, Try.ntmps47
  go_wp2_with fail
  refine (c0 _).mono ?_
  rintro e w1 ⟨rfl, b1⟩
  rw [← hW0] at b1
  have s1 := kS _ (b1.mono (by omega))
  clear hW0 c0
  go_wp2_with fail
  have hwr : IntKind.i64.wrap (r.kind - 1) = r.kind - 1 := IntWalk.i64_in _ (by omega)
  go_region_held3 (fun w' => (w'.cell? ⟨w.heap.size, 0, none⟩ = some (.int .i64 r.kind) ∧ w'.cell? ⟨w.heap.size, 1, none⟩ = some (.int .i64 r.tx) ∧ Below (w.heap.size + 1) W0 w')) (first | assumption | exact kSD _ (by assumption) | exact kSA _ _ (by assumption)) (first
    | (go_at_call 58; (with_reducible refine (F1 _ (by first | assumption | exact kSD _ (by assumption) | exact kSA _ _ (by assumption))).mono ?_); rintro e w3 ⟨A3, rfl, i3, k3, s3⟩)
    | (go_at_call 57; (with_reducible refine (F2 _ _ _ _ _ (i3.more' _) (ints_two .i64 w3 _ _ 3)).mono ?_); rintro e w4 ⟨v4, rfl, o4, k4⟩; have hX := kA w3 (.cells #[.int .i64 (r.kind - 1), .int .i64 r.tx] 3) s3.2.2; have s4 := kS _ (kT _ _ hX k4))
    | (go_at_call 57; (with_reducible refine (F2 _ _ _ _ _ i3 (((ints_two_drew .i64 _ _ _ 3).below k3 (Nat.le_refl _)).more k3.size)).mono ?_); rintro e w4 ⟨v4, rfl, o4, k4⟩; have hX := s3.2.2; have s4 := kS _ (kT _ _ hX k4)))
  all_goals
    clear F1 F2 hwr
    obtain ⟨X, o4, k4, hX⟩ : ∃ X : World, Owns X.heap.size w4 v4 hd ∧ Below X.heap.size X w4 ∧ Below (w.heap.size + 1) W0 X := ⟨_, o4, k4, hX⟩
    have RX := hR0.below hX (by omega)
    have hXs := hsz _ hX
    have hXw : Below w.heap.size w X := hw0.trans (hX.mono (by omega))
    clear s1 s3 s4 kSD kSA kA kT kS hsz i3 k3 b1 hR0 hX hw0
    have RW := RX.below k4 (by omega)
    have ck := RW.c0
    have gk := RW.key
    clear RW
    go_wp2_with (at_builtin; refine wpList_appendB rfl _ _ rfl X.heap.size v4 hd rfl o4 (some ⟨w.heap.size, 3, none⟩) [r.k0, r.k1, r.k2, r.k3] 4 4 rfl rfl gk (by rw [hid.out]; simp) k4.size X k4 ?_; intro v5 w5 o5 k5; have RV := RX.below k5 (by omega); have q7 := RV.c7; have q8 := RV.c8; have q9 := RV.c9; have q10 := RV.c10)
    refine (F3 _).mono ?_
    rintro e w6 ⟨v6, rfl, o6, k6⟩
    obtain ⟨A6, c6, rfl, g6⟩ := o6.good
    rw [HL5.out]
    have o5' := o5.below k6
    have k5' := below_more k5 k6 (Nat.le_refl _)
    clear F3 q7 q8 q9 q10 RV
    go_wp2_with (at_builtin; refine wpList_appendB rfl _ _ rfl X.heap.size v5 (hd ++ [r.k0, r.k1, r.k2, r.k3]) rfl o5' A6 vl l5 c6 rfl HL5.out g6 (by rw [List.length_append, hid.out, HL5.out]; simp; omega) k5'.size X k5' ?_; intro v7 w7 o7 k7)
    go_ret2
    exact ⟨v7, rfl, o7.base hXw.size, below_more hXw k7 (Nat.le_refl _)⟩
set_option maxRecDepth 100000 in
set_option maxHeartbeats 2000000 in
theorem enc_7 (r : RecD) (hr : rightB r = true) (ok : okR r) (h2 : (r.kind == 2) = false) (h8 : (r.kind == 8) = false) (h1 : (r.kind == 1) = false) (h7 : (r.kind == 7) = true) (w : World) : Calls Try.prog 47 #[recV r] w (EncSays r w) := by
  have hbd := right_bd r hr
  have hlt := headN_lt r hr
  have c0 : ∀ W, Calls Try.prog 56 #[.agg #[.int .i64 r.kind, .int .i64 r.tx, .int .u16 r.mask, .int .u8 r.k0, .int .u8 r.k1, .int .u8 r.k2, .int .u8 r.k3, .bool r.oT, .int .i64 r.oN, .bool r.nT, .int .i64 r.nN]] W fun e w' => e = .returned (.bool true) ∧ Below W.heap.size W w' := fun W => right_any r true hr W
  obtain ⟨W0, hW0⟩ : ∃ W0, W0 = w.alloc (.cells #[.int .i64 r.kind, .int .i64 r.tx, .int .u16 r.mask, .int .u8 r.k0, .int .u8 r.k1, .int .u8 r.k2, .int .u8 r.k3, .bool r.oT, .int .i64 r.oN, .bool r.nT, .int .i64 r.nN] 48) := ⟨_, rfl⟩
  have hR0 : RecAt W0 w.heap.size r := by rw [hW0]; exact recAt_new w r
  have hs0 : W0.heap.size = w.heap.size + 1 := by rw [hW0]; simp
  have hw0 : Below w.heap.size w W0 := by rw [hW0]; exact (Below.refl _ _).alloc (Nat.le_refl _) _
  have kS : ∀ W, Below (w.heap.size + 1) W0 W → (W.cell? ⟨w.heap.size, 0, none⟩ = some (.int .i64 r.kind) ∧ W.cell? ⟨w.heap.size, 1, none⟩ = some (.int .i64 r.tx) ∧ Below (w.heap.size + 1) W0 W) := fun W hb => have h := hR0.below hb (by omega); ⟨h.c0, h.c1, hb⟩
  have hsz : ∀ W, Below (w.heap.size + 1) W0 W → w.heap.size + 1 ≤ W.heap.size := fun W hb => by have := hb.size; omega
  have kA : ∀ W o, Below (w.heap.size + 1) W0 W → Below (w.heap.size + 1) W0 (W.alloc o) := fun W o hb => hb.alloc (hsz W hb) o
  have kT : ∀ W W', Below (w.heap.size + 1) W0 W → Below W.heap.size W W' → Below (w.heap.size + 1) W0 W' := fun W W' hb hk => hb.trans (hk.mono (hsz W hb))
  have kSD : ∀ W, (W.cell? ⟨w.heap.size, 0, none⟩ = some (.int .i64 r.kind) ∧ W.cell? ⟨w.heap.size, 1, none⟩ = some (.int .i64 r.tx) ∧ Below (w.heap.size + 1) W0 W) → (W.drew.cell? ⟨w.heap.size, 0, none⟩ = some (.int .i64 r.kind) ∧ W.drew.cell? ⟨w.heap.size, 1, none⟩ = some (.int .i64 r.tx) ∧ Below (w.heap.size + 1) W0 W.drew) := fun W h => kS _ h.2.2.drew
  have kSA : ∀ W o, (W.cell? ⟨w.heap.size, 0, none⟩ = some (.int .i64 r.kind) ∧ W.cell? ⟨w.heap.size, 1, none⟩ = some (.int .i64 r.tx) ∧ Below (w.heap.size + 1) W0 W) → ((W.alloc o).cell? ⟨w.heap.size, 0, none⟩ = some (.int .i64 r.kind) ∧ (W.alloc o).cell? ⟨w.heap.size, 1, none⟩ = some (.int .i64 r.tx) ∧ Below (w.heap.size + 1) W0 (W.alloc o)) := fun W o h => kS _ (kA _ o h.2.2)
  have hp := head_pack r.kind r.tx hbd.1 hbd.2.1 hbd.2.2.1 hbd.2.2.2
  have F1 : ∀ W, (W.cell? ⟨w.heap.size, 0, none⟩ = some (.int .i64 r.kind) ∧ W.cell? ⟨w.heap.size, 1, none⟩ = some (.int .i64 r.tx) ∧ Below (w.heap.size + 1) W0 W) → Calls Try.prog 58 #[] W fun e w' => ∃ A, e = .returned (.slice A 2 2) ∧ Ints .i64 w'.heap.size w' A [3, 21] ∧ Below W.heap.size W w' ∧ (w'.cell? ⟨w.heap.size, 0, none⟩ = some (.int .i64 r.kind) ∧ w'.cell? ⟨w.heap.size, 1, none⟩ = some (.int .i64 r.tx) ∧ Below (w.heap.size + 1) W0 w') := fun W h => by
    refine (headWidths_any W).mono ?_
    rintro e w' ⟨rfl, i, k⟩
    exact ⟨_, rfl, i, k, kS _ (kT _ _ h.2.2 k)⟩
  have F2 : ∀ A A' c c' W, Ints .i64 W.heap.size W A [3, 21] → Ints .i64 W.heap.size W A' [r.kind - 1, r.tx] → Calls Try.prog 57 #[.int .i64 3, .slice A 2 c, .slice A' 2 c'] W (GivesB (bytesL (headN r) 3) W) := fun A A' c c' W =>
    packed_any 3 (headN r) [3, 21] [r.kind - 1, r.tx] A A' c c' 2 2 (by omega) rfl rfl hp.2.2 hp.1 hp.2.1 (by omega) (by simp; omega) W
  have he : encL r = bytesL (headN r) 3 ++ [r.k0, r.k1, r.k2, r.k3] ++ valsL r.oT r.oN r.nT r.nN := by
    simp at *
    simp [encL, tailL, valsL, flagsN, *]
  unfold EncSays
  rw [he]
  have F3 := fun W => valsBytes_any r.oT r.oN r.nT r.nN ok.oN ok.nN W
  have hvl : (valsL r.oT r.oN r.nT r.nN).length ≤ 17 := by
    have := valL_le r.oT r.oN
    have := valL_le r.nT r.nN
    simp [valsL]; omega
  obtain ⟨l5, hl5⟩ : ∃ l5, (valsL r.oT r.oN r.nT r.nN).length = l5 := ⟨_, rfl⟩
  rw [hl5] at hvl
  have HL5 := Lib.hid hl5
  clear hl5
  generalize valsL r.oT r.oN r.nT r.nN = vl at *
  have hhl : (bytesL (headN r) 3).length = 3 := bytesL_length _ _
  generalize bytesL (headN r) 3 = hd at *
  have hid := Lib.hid hhl
  clear hhl he
  obtain ⟨hbd1, hbd2, hbd3, hbd4⟩ := hbd
  clear hp hr ok hlt
  rw [recV_eq]
  go_enter Try.func47, Try.ntmps47
  go_wp2_with fail
  refine (c0 _).mono ?_
  rintro e w1 ⟨rfl, b1⟩
  rw [← hW0] at b1
  have s1 := kS _ (b1.mono (by omega))
  clear hW0 c0
  go_wp2_with fail
  have hwr : IntKind.i64.wrap (r.kind - 1) = r.kind - 1 := IntWalk.i64_in _ (by omega)
  go_region_held3 (fun w' => (w'.cell? ⟨w.heap.size, 0, none⟩ = some (.int .i64 r.kind) ∧ w'.cell? ⟨w.heap.size, 1, none⟩ = some (.int .i64 r.tx) ∧ Below (w.heap.size + 1) W0 w')) (first | assumption | exact kSD _ (by assumption) | exact kSA _ _ (by assumption)) (first
    | (go_at_call 58; (with_reducible refine (F1 _ (by first | assumption | exact kSD _ (by assumption) | exact kSA _ _ (by assumption))).mono ?_); rintro e w3 ⟨A3, rfl, i3, k3, s3⟩)
    | (go_at_call 57; (with_reducible refine (F2 _ _ _ _ _ (i3.more' _) (ints_two .i64 w3 _ _ 3)).mono ?_); rintro e w4 ⟨v4, rfl, o4, k4⟩; have hX := kA w3 (.cells #[.int .i64 (r.kind - 1), .int .i64 r.tx] 3) s3.2.2; have s4 := kS _ (kT _ _ hX k4))
    | (go_at_call 57; (with_reducible refine (F2 _ _ _ _ _ i3 (((ints_two_drew .i64 _ _ _ 3).below k3 (Nat.le_refl _)).more k3.size)).mono ?_); rintro e w4 ⟨v4, rfl, o4, k4⟩; have hX := s3.2.2; have s4 := kS _ (kT _ _ hX k4)))
  all_goals
    clear F1 F2 hwr
    obtain ⟨X, o4, k4, hX⟩ : ∃ X : World, Owns X.heap.size w4 v4 hd ∧ Below X.heap.size X w4 ∧ Below (w.heap.size + 1) W0 X := ⟨_, o4, k4, hX⟩
    have RX := hR0.below hX (by omega)
    have hXs := hsz _ hX
    have hXw : Below w.heap.size w X := hw0.trans (hX.mono (by omega))
    clear s1 s3 s4 kSD kSA kA kT kS hsz i3 k3 b1 hR0 hX hw0
    have RW := RX.below k4 (by omega)
    have ck := RW.c0
    have gk := RW.key
    clear RW
    go_wp2_with (at_builtin; refine wpList_appendB rfl _ _ rfl X.heap.size v4 hd rfl o4 (some ⟨w.heap.size, 3, none⟩) [r.k0, r.k1, r.k2, r.k3] 4 4 rfl rfl gk (by rw [hid.out]; simp) k4.size X k4 ?_; intro v5 w5 o5 k5; have RV := RX.below k5 (by omega); have q7 := RV.c7; have q8 := RV.c8; have q9 := RV.c9; have q10 := RV.c10)
    refine (F3 _).mono ?_
    rintro e w6 ⟨v6, rfl, o6, k6⟩
    obtain ⟨A6, c6, rfl, g6⟩ := o6.good
    rw [HL5.out]
    have o5' := o5.below k6
    have k5' := below_more k5 k6 (Nat.le_refl _)
    clear F3 q7 q8 q9 q10 RV
    go_wp2_with (at_builtin; refine wpList_appendB rfl _ _ rfl X.heap.size v5 (hd ++ [r.k0, r.k1, r.k2, r.k3]) rfl o5' A6 vl l5 c6 rfl HL5.out g6 (by rw [List.length_append, hid.out, HL5.out]; simp; omega) k5'.size X k5' ?_; intro v7 w7 o7 k7)
    go_ret2
    exact ⟨v7, rfl, o7.base hXw.size, below_more hXw k7 (Nat.le_refl _)⟩
theorem enc_yes (r : RecD) (hr : rightB r = true) (ok : okR r) (w : World) : Calls Try.prog 47 #[recV r] w (EncSays r w) := by
  cases h2 : (r.kind == 2)
  · cases h8 : (r.kind == 8)
    · cases h1 : (r.kind == 1)
      · cases h7 : (r.kind == 7)
        · exact enc_plain r hr ok h2 h8 h1 h7 w
        · exact enc_7 r hr ok h2 h8 h1 h7 w
      · exact enc_1 r hr ok h2 h8 h1 w
    · exact enc_8 r hr ok h2 h8 w
  · exact enc_2 r hr ok h2 w
set_option maxRecDepth 100000 in
set_option maxHeartbeats 1000000 in
theorem enc_no (r : RecD) (hr : rightB r = false) (w : World) : Calls Try.prog 47 #[recV r] w fun e w' => e = .returned (.tuple #[.slice none 0 0, .bool false]) ∧ Below w.heap.size w w' := by
  have c0 : ∀ W, Calls Try.prog 56 #[.agg #[.int .i64 r.kind, .int .i64 r.tx, .int .u16 r.mask, .int .u8 r.k0, .int .u8 r.k1, .int .u8 r.k2, .int .u8 r.k3, .bool r.oT, .int .i64 r.oN, .bool r.nT, .int .i64 r.nN]] W fun e w' => e = .returned (.bool false) ∧ Below W.heap.size W w' := fun W => right_any r false hr W
  rw [recV_eq]
  go_enter Try.func47, Try.ntmps47
  go_wp2_with fail
  refine (c0 _).mono ?_
  rintro e w1 ⟨rfl, b1⟩
  go_wp2
  go_ret2
  exact ⟨rfl, ((Below.refl _ _).alloc (Nat.le_refl _) _).trans (b1.mono (by simp))⟩
end Go.Proofs.Ytdmkkfpbgpijjaa
namespace Go.Proofs.Ytdmkkfpbgpijjaa
set_option linter.unusedVariables false

def zeros (n : Nat) : List Int := List.replicate n 0
/-- 24 bytes, with noughts behind. -/
def pad (b : List Int) : List Int := (b ++ zeros 24).take 24
theorem pad_length (b : List Int) : (pad b).length = 24 := by simp [pad, zeros]
def rdN (zs : List Int) (f k : Nat) : Int := if f = 0 then 0 else zagI (fromN (zs.take (k + 1)))
def rdT (f : Nat) : Bool := !(f == 0)
def rdR (zs : List Int) (f k : Nat) : List Int := if f = 0 then zs else zs.drop (k + 1)
/-- A record of 24 bytes. -/
def read24 (c : List Int) : RecD :=
  let h := fromN (c.take 3)
  let k : Int := ((h % 8 : Nat) : Int) + 1
  let t : Int := ((h / 8 : Nat) : Int)
  if k = 2 ∨ k = 8 then ⟨k, t, fromN ((c.drop 3).take 2), 0, 0, 0, 0, false, 0, false, 0⟩
  else if k = 1 ∨ k = 7 then
    let f := fromN ((c.drop 7).take 1)
    let zs := c.drop 8
    ⟨k, t, 0, c[3]?.getD 0, c[4]?.getD 0, c[5]?.getD 0, c[6]?.getD 0, rdT (f % 2), rdN zs (f % 2) (f / 4 % 8), rdT (f / 2 % 2), rdN (rdR zs (f % 2) (f / 4 % 8)) (f / 2 % 2) (f / 32 % 8)⟩
  else ⟨k, t, 0, 0, 0, 0, 0, false, 0, false, 0⟩
def readL (b : List Int) : RecD := read24 (pad b)

theorem encL_length (r : RecD) : (encL r).length = 3 + (tailL r).length := by simp [encL, bytesL_length]
theorem tailL_le (r : RecD) : (tailL r).length ≤ 21 := by
  have h1 := valL_le r.oT r.oN
  have h2 := valL_le r.nT r.nN
  unfold tailL
  split
  · simp [bytesL_length]
  · split
    · simp; omega
    · simp
theorem encL_bd (r : RecD) : 3 ≤ (encL r).length ∧ (encL r).length ≤ 24 := by
  have := tailL_le r
  rw [encL_length]; omega
theorem flagsN_lt (r : RecD) : flagsN r < 256 := by
  have h1 := bitN_le r.oT
  have h2 := bitN_le r.nT
  have h3 := less_le r.oT r.oN
  have h4 := less_le r.nT r.nN
  unfold flagsN; omega
theorem encL_bytes (r : RecD) (ok : okR r) : isBytes (encL r) := by
  intro z hz
  unfold encL at hz
  rcases List.mem_append.1 hz with hz | hz
  · exact bytesL_bytes _ _ z hz
  · unfold tailL at hz
    split at hz
    · exact bytesL_bytes _ _ z hz
    · split at hz
      · simp only [List.mem_append, List.mem_cons, List.not_mem_nil, or_false] at hz
        have hf := flagsN_lt r
        rcases hz with (rfl | rfl | rfl | rfl) | rfl | hz | hz
        · exact ok.k0
        · exact ok.k1
        · exact ok.k2
        · exact ok.k3
        · omega
        · exact valL_bytes _ _ z hz
        · exact valL_bytes _ _ z hz
      · cases hz

theorem bytes3 (u : Nat) : ∃ a b c, bytesL u 3 = [a, b, c] := ⟨_, _, _, rfl⟩
theorem bytes2 (u : Nat) : ∃ a b, bytesL u 2 = [a, b] := ⟨_, _, rfl⟩
theorem head_val (r : RecD) (h : rightB r = true) : ((headN r % 8 : Nat) : Int) + 1 = r.kind ∧ ((headN r / 8 : Nat) : Int) = r.tx := by
  have := right_bd r h
  unfold headN; omega
/-- A value that stands at the beginning of bytes. -/
theorem rd_val (t : Bool) (n : Int) (hn : isI64 n) (hv : okVal t n = true) (s : List Int) :
    rdT (bitN t) = t ∧ rdN (valL t n ++ s) (bitN t) (less t n) = n ∧ rdR (valL t n ++ s) (bitN t) (less t n) = s := by
  cases t with
  | false =>
    simp [okVal] at hv
    simp [rdT, rdN, rdR, bitN, valL, hv]
  | true =>
    have hlt := zigN_lt n hn
    have hb := nb_bd (zigN n)
    have e : nb (zigN n) - 1 + 1 = nb (zigN n) := by omega
    have hl := bytesL_length (zigN n) (nb (zigN n))
    have hz : zagI (zigN n) = n := zag_zig n
    simp only [rdT, rdN, rdR, bitN, valL, less, if_true]
    simp only [e]
    refine ⟨by simp, ?_, ?_⟩
    · rw [if_neg (by decide), List.take_append_of_le_length (by omega), List.take_of_length_le (by omega), from_bytes _ _ (nb_fit _ hlt), hz]
    · rw [if_neg (by decide), List.drop_append_of_le_length (by omega), List.drop_of_length_le (by omega), List.nil_append]
theorem rdN_take (zs : List Int) (f k m : Nat) (h : k + 1 ≤ m) : rdN (zs.take m) f k = rdN zs f k := by
  unfold rdN
  rw [List.take_take, Nat.min_eq_left h]
theorem rdR_take (zs : List Int) (f k m : Nat) : rdR (zs.take m) f k = (rdR zs f k).take (if f = 0 then m else m - (k + 1)) := by
  unfold rdR
  split
  · rfl
  · rw [List.drop_take]
theorem read_enc_keyed (r : RecD) (h : rightB r = true) (ok : okR r) (hv1 : okVal r.oT r.oN = true) (hv2 : okVal r.nT r.nN = true) (hm : r.mask = 0) (hk : r.kind = 1 ∨ r.kind = 7) (s : List Int) : read24 ((encL r ++ s).take 24) = r := by
  obtain ⟨a, b, c, hb⟩ := bytes3 (headN r)
  have hf := flagsN_lt r
  have hh : fromN [a, b, c] = headN r := by rw [← hb]; exact from_bytes 3 _ (by have := headN_lt r h; simp; omega)
  have hd := head_val r h
  have l3 := less_le r.oT r.oN
  have l4 := less_le r.nT r.nN
  have b3 := bitN_le r.oT
  have b4 := bitN_le r.nT
  have g1 : flagsN r % 2 = bitN r.oT := by unfold flagsN; omega
  have g2 : flagsN r / 2 % 2 = bitN r.nT := by unfold flagsN; omega
  have g3 : flagsN r / 4 % 8 = less r.oT r.oN := by unfold flagsN; omega
  have g4 : flagsN r / 32 % 8 = less r.nT r.nN := by unfold flagsN; omega
  have e : encL r ++ s = [a, b, c, r.k0, r.k1, r.k2, r.k3, (flagsN r : Int)] ++ (valL r.oT r.oN ++ (valL r.nT r.nN ++ s)) := by
    have hk2 : ¬ (r.kind = 2 ∨ r.kind = 8) := by omega
    simp [encL, tailL, hk2, hk, hb]
  have v1 := rd_val r.oT r.oN ok.oN hv1 (valL r.nT r.nN ++ s)
  have v2 := rd_val r.nT r.nN ok.nN hv2 s
  rw [e]
  have ff : fromN [(flagsN r : Int)] = flagsN r := by simp [fromN]
  generalize hX : valL r.oT r.oN ++ (valL r.nT r.nN ++ s) = X at *
  have e2 : (([a, b, c, r.k0, r.k1, r.k2, r.k3, (flagsN r : Int)] ++ X).take 24) = [a, b, c, r.k0, r.k1, r.k2, r.k3, (flagsN r : Int)] ++ X.take 16 := by
    rw [List.take_append]; rfl
  rw [e2]
  unfold read24
  simp only [List.cons_append, List.nil_append, List.take_succ_cons, List.take_zero, List.drop_succ_cons, List.drop_zero, List.getElem?_cons_succ, List.getElem?_cons_zero, Option.getD_some, hh, hd.1, hd.2, ff]
  rw [if_neg (by omega), if_pos hk, g1, g2, g3, g4, rdN_take _ _ _ _ (by omega), rdR_take, rdN_take _ _ _ _ (by split <;> omega), v1.1, v1.2.1, v1.2.2, v2.1, v2.2.1]
  obtain ⟨kind, tx, mask, k0, k1, k2, k3, oT, oN, nT, nN⟩ := r
  simp at hm
  subst hm
  rfl
theorem read_enc_mask (r : RecD) (h : rightB r = true) (ok : okR r) (hk : r.kind = 2 ∨ r.kind = 8) (he : r = ⟨r.kind, r.tx, r.mask, 0, 0, 0, 0, false, 0, false, 0⟩) (s : List Int) : read24 ((encL r ++ s).take 24) = r := by
  obtain ⟨a, b, c, hb⟩ := bytes3 (headN r)
  obtain ⟨d, f, hb2⟩ := bytes2 r.mask
  have hh : fromN [a, b, c] = headN r := by rw [← hb]; exact from_bytes 3 _ (by have := headN_lt r h; simp; omega)
  have hm : fromN [d, f] = r.mask := by rw [← hb2]; exact from_bytes 2 _ (by have := ok.mask; simp; omega)
  have hd := head_val r h
  have e : encL r ++ s = [a, b, c, d, f] ++ s := by simp [encL, tailL, hk, hb, hb2]
  have e2 : (([a, b, c, d, f] ++ s).take 24) = [a, b, c, d, f] ++ s.take 19 := by rw [List.take_append]; rfl
  rw [e, e2]
  unfold read24
  simp only [List.cons_append, List.nil_append, List.take_succ_cons, List.take_zero, List.drop_succ_cons, List.drop_zero, hh, hd.1, hd.2, hm]
  rw [if_pos hk]
  exact he.symm
theorem read_enc_plain (r : RecD) (h : rightB r = true) (hk : ¬ (r.kind = 2 ∨ r.kind = 8)) (hk2 : ¬ (r.kind = 1 ∨ r.kind = 7)) (he : r = ⟨r.kind, r.tx, 0, 0, 0, 0, 0, false, 0, false, 0⟩) (s : List Int) : read24 ((encL r ++ s).take 24) = r := by
  obtain ⟨a, b, c, hb⟩ := bytes3 (headN r)
  have hh : fromN [a, b, c] = headN r := by rw [← hb]; exact from_bytes 3 _ (by have := headN_lt r h; simp; omega)
  have hd := head_val r h
  have e : encL r ++ s = [a, b, c] ++ s := by simp [encL, tailL, hk, hk2, hb]
  have e2 : (([a, b, c] ++ s).take 24) = [a, b, c] ++ s.take 21 := by rw [List.take_append]; rfl
  rw [e, e2]
  unfold read24
  simp only [List.cons_append, List.nil_append, List.take_succ_cons, List.take_zero, hh, hd.1, hd.2]
  rw [if_neg hk, if_neg hk2]
  exact he.symm
theorem right_shape (r : RecD) (h : rightB r = true) :
    ((r.kind = 1 ∨ r.kind = 7) ∧ okVal r.oT r.oN = true ∧ okVal r.nT r.nN = true ∧ r.mask = 0) ∨ ((r.kind = 2 ∨ r.kind = 8) ∧ r = ⟨r.kind, r.tx, r.mask, 0, 0, 0, 0, false, 0, false, 0⟩) ∨
    (¬ (r.kind = 2 ∨ r.kind = 8) ∧ ¬ (r.kind = 1 ∨ r.kind = 7) ∧ r = ⟨r.kind, r.tx, 0, 0, 0, 0, 0, false, 0, false, 0⟩) := by
  unfold rightB at h
  split at h
  · rename_i hk
    simp only [Bool.and_eq_true, beq_iff_eq] at h
    exact .inl ⟨.inl hk, h.2.2.1, h.2.2.2, by omega⟩
  · split at h
    · rename_i hk
      simp only [Bool.and_eq_true, eqR_iff] at h
      exact .inr (.inl ⟨.inl hk, h.2.2⟩)
    · split at h
      · rename_i hk
        simp only [Bool.and_eq_true, eqR_iff] at h
        exact .inr (.inr ⟨by omega, by omega, h.2⟩)
      · split at h
        · rename_i hk
          simp only [Bool.and_eq_true, eqR_iff] at h
          have e := h.2
          refine .inl ⟨.inr hk, ?_, ?_, ?_⟩
          · rw [e]; rfl
          · simp [okVal, h.1]
          · rw [e]
        · split at h
          · rename_i hk
            simp only [Bool.and_eq_true, eqR_iff] at h
            have e := h.2
            refine .inr (.inl ⟨.inr hk, ?_⟩)
            have et : r.tx = 0 := by rw [e]
            rw [et]; exact e
          · cases h
theorem read_enc (r : RecD) (h : rightB r = true) (ok : okR r) (s : List Int) : read24 ((encL r ++ s).take 24) = r := by
  rcases right_shape r h with ⟨hk, h1, h2, h3⟩ | ⟨hk, he⟩ | ⟨hk, hk2, he⟩
  · exact read_enc_keyed r h ok h1 h2 h3 hk s
  · exact read_enc_mask r h ok hk he s
  · exact read_enc_plain r h hk hk2 he s
/-- A right record that stands at the beginning of bytes is the one that is read. -/
theorem read_prefix (r : RecD) (h : rightB r = true) (ok : okR r) (b : List Int) (hp : encL r <+: b) : readL b = r := by
  obtain ⟨t, rfl⟩ := hp
  unfold readL pad
  rw [List.append_assoc]
  exact read_enc r h ok _
/-- No record's bytes begin with another one's. -/
theorem enc_apart (r s : RecD) (hr : rightB r = true) (hs : rightB s = true) (okr : okR r) (oks : okR s) (hp : encL r <+: encL s) : r = s :=
  (read_prefix r hr okr _ hp).symm.trans (read_prefix s hs oks _ (List.prefix_refl _))
end Go.Proofs.Ytdmkkfpbgpijjaa
namespace Go.Proofs.Ytdmkkfpbgpijjaa
set_option linter.unusedVariables false

theorem isBytes.take {zs : List Int} (h : isBytes zs) (n : Nat) : isBytes (zs.take n) := fun z hz => h z (List.mem_of_mem_take hz)
theorem isBytes.drop {zs : List Int} (h : isBytes zs) (n : Nat) : isBytes (zs.drop n) := fun z hz => h z (List.mem_of_mem_drop hz)
theorem isBytes.append {xs ys : List Int} (h : isBytes xs) (k : isBytes ys) : isBytes (xs ++ ys) := fun z hz => (List.mem_append.1 hz).elim (h z) (k z)
theorem zeros_bytes (n : Nat) : isBytes (zeros n) := fun z hz => by
  have := (List.mem_replicate.1 hz).2
  omega
theorem pad_bytes {b : List Int} (h : isBytes b) : isBytes (pad b) := (h.append (zeros_bytes 24)).take 24
theorem fromN_8 (zs : List Int) (h : isBytes zs) (n : Nat) (hn : n ≤ 8) : fromN (zs.take n) < 18446744073709551616 := by
  have h1 := fromN_lt (zs.take n) (h.take n)
  have h2 : 256 ^ (zs.take n).length ≤ 256 ^ 8 := Nat.pow_le_pow_right (by decide) (by rw [List.length_take]; omega)
  omega
theorem fromN_k (zs : List Int) (h : isBytes zs) (n : Nat) : fromN (zs.take n) < 256 ^ n := by
  have h1 := fromN_lt (zs.take n) (h.take n)
  have h2 : 256 ^ (zs.take n).length ≤ 256 ^ n := Nat.pow_le_pow_right (by decide) (by rw [List.length_take]; omega)
  omega
theorem rdN_i64 (zs : List Int) (h : isBytes zs) (f k : Nat) (hk : k ≤ 7) : isI64 (rdN zs f k) := by
  unfold rdN
  split
  · exact ⟨by omega, by omega⟩
  · have := zag_bounds _ (fromN_8 zs h (k + 1) (by omega))
    exact ⟨this.1, by omega⟩
theorem rdR_bytes {zs : List Int} (h : isBytes zs) (f k : Nat) : isBytes (rdR zs f k) := by
  unfold rdR
  split
  · exact h
  · exact h.drop _
theorem read24_ok (c : List Int) (h : isBytes c) : okR (read24 c) := by
  unfold read24
  dsimp only
  split
  · have := fromN_k (c.drop 3) (h.drop 3) 2
    exact ⟨by simpa using this, by simp, by simp, by simp, by simp, ⟨by simp, by simp⟩, ⟨by simp, by simp⟩⟩
  · split
    · exact ⟨by simp, isBytes_at c h 3, isBytes_at c h 4, isBytes_at c h 5, isBytes_at c h 6, rdN_i64 _ (h.drop 8) _ _ (by omega), rdN_i64 _ (rdR_bytes (h.drop 8) _ _) _ _ (by omega)⟩
    · exact ⟨by simp, by simp, by simp, by simp, by simp, ⟨by simp, by simp⟩, ⟨by simp, by simp⟩⟩
theorem readL_ok (b : List Int) (h : isBytes b) : okR (readL b) := read24_ok _ (pad_bytes h)

def hasP (xs ys : List Int) : Bool := decide (ys.length ≤ xs.length) && (xs.take ys.length == ys)
theorem hasP_iff (xs ys : List Int) : hasP xs ys = true ↔ ys <+: xs := by
  simp only [hasP, Bool.and_eq_true, decide_eq_true_eq, beq_iff_eq]
  rw [List.prefix_iff_eq_take]
  constructor
  · intro h; exact h.2.symm
  · intro h
    refine ⟨?_, h.symm⟩
    have := congrArg List.length h
    rw [List.length_take] at this
    omega
def decOK (b : List Int) : Bool := rightB (readL b) && hasP b (encL (readL b))
def decR (b : List Int) : RecD := if decOK b then readL b else zeroR
def decN (b : List Int) : Nat := if decOK b then (encL (readL b)).length else 0
theorem dec_of (b : List Int) (r : RecD) (h : rightB r = true) (ok : okR r) (hp : encL r <+: b) : decOK b = true ∧ decR b = r ∧ decN b = (encL r).length := by
  have e := read_prefix r h ok b hp
  have o : decOK b = true := by
    simp only [decOK, e, h, Bool.true_and]
    exact (hasP_iff _ _).2 hp
  exact ⟨o, by simp [decR, o, e], by simp [decN, o, e]⟩
theorem decOK_iff (b : List Int) : decOK b = true ↔ rightB (readL b) = true ∧ encL (readL b) <+: b := by
  simp only [decOK, Bool.and_eq_true, hasP_iff]
theorem decN_zero (b : List Int) : decN b = 0 ↔ decOK b = false := by
  unfold decN
  have := encL_bd (readL b)
  split
  · rename_i h
    rw [h]
    constructor
    · intro e; omega
    · intro e; cases e
  · rename_i h
    simp at h
    simp [h]
theorem decN_le (b : List Int) : decN b ≤ b.length := by
  unfold decN
  split
  · rename_i h
    exact ((decOK_iff b).1 h).2.length_le
  · omega
theorem decN_bd (b : List Int) : decN b = 0 ∨ (3 ≤ decN b ∧ decN b ≤ 24) := by
  unfold decN
  have := encL_bd (readL b)
  split
  · exact .inr this
  · exact .inl rfl
theorem dec_none (b : List Int) (h : ∀ r, okR r → rightB r = true → ¬ encL r <+: b) (hb : isBytes b) : decN b = 0 := by
  rw [decN_zero, Bool.eq_false_iff]
  intro e
  have := (decOK_iff b).1 e
  exact h _ (readL_ok b hb) this.1 this.2

/-! ### All -/
def posN (b : List Int) : Nat → Nat
  | 0 => 0
  | k + 1 => posN b k + decN (b.drop (posN b k))
theorem posN_succ (b : List Int) (k : Nat) : posN b (k + 1) = posN b k + decN (b.drop (posN b k)) := rfl
def recsN (b : List Int) (k : Nat) : List RecD := (List.range k).map fun i => decR (b.drop (posN b i))
theorem recsN_succ (b : List Int) (k : Nat) : recsN b (k + 1) = recsN b k ++ [decR (b.drop (posN b k))] := by simp [recsN, List.range_succ]
theorem recsN_length (b : List Int) (k : Nat) : (recsN b k).length = k := by simp [recsN]
def Goes (b : List Int) (k : Nat) : Prop := ∀ i, i < k → decN (b.drop (posN b i)) ≠ 0
def Stops (b : List Int) (k : Nat) : Prop := Goes b k ∧ decN (b.drop (posN b k)) = 0
theorem Goes.succ {b : List Int} {k : Nat} (h : Goes b k) (h2 : decN (b.drop (posN b k)) ≠ 0) : Goes b (k + 1) := fun i hi => by
  rcases Nat.lt_or_ge i k with hlt | hge
  · exact h i hlt
  · obtain rfl : i = k := by omega
    exact h2
theorem stops_one {b : List Int} {k k' : Nat} (h : Stops b k) (h' : Stops b k') : k = k' := by
  rcases Nat.lt_trichotomy k k' with hlt | e | hgt
  · exact absurd h.2 (h'.1 k hlt)
  · exact e
  · exact absurd h'.2 (h.1 k' hgt)
theorem posN_le (b : List Int) (k : Nat) : posN b k ≤ b.length := by
  induction k with
  | zero => simp [posN]
  | succ k ih =>
    have := decN_le (b.drop (posN b k))
    rw [List.length_drop] at this
    rw [posN_succ]; omega
theorem posN_ge {b : List Int} {k : Nat} (h : Goes b k) : 3 * k ≤ posN b k := by
  induction k with
  | zero => simp
  | succ k ih =>
    have h1 := ih (fun i hi => h i (by omega))
    have h2 := h k (by omega)
    have h3 := decN_bd (b.drop (posN b k))
    rw [posN_succ]; omega

/-! ### Join -/
def joinL (l : List RecD) : List Int := l.flatMap encL
theorem joinL_app (a b : List RecD) : joinL (a ++ b) = joinL a ++ joinL b := by simp [joinL]
theorem joinL_cons (r : RecD) (l : List RecD) : joinL (r :: l) = encL r ++ joinL l := by simp [joinL]
theorem joinL_snoc (l : List RecD) (r : RecD) : joinL (l ++ [r]) = joinL l ++ encL r := by simp [joinL]
theorem joinL_le (l : List RecD) : (joinL l).length ≤ 24 * l.length := by
  induction l with
  | nil => simp [joinL]
  | cons r l ih =>
    have := (encL_bd r).2
    simp only [joinL, List.flatMap_cons, List.length_append, List.length_cons] at *
    omega
theorem joinL_take_drop (l : List RecD) (k : Nat) : joinL l = joinL (l.take k) ++ joinL (l.drop k) := by
  conv => lhs; rw [← List.take_append_drop k l]
  rw [joinL_app]
theorem joinL_bytes (l : List RecD) (h : ∀ r ∈ l, okR r) : isBytes (joinL l) := by
  intro z hz
  simp only [joinL, List.mem_flatMap] at hz
  obtain ⟨r, hr, hz⟩ := hz
  exact encL_bytes r (h r hr) z hz

/-! ### records come back -/
def endsN (l : List RecD) (i : Nat) : Nat := (joinL (l.take i)).length
theorem endsN_succ (l : List RecD) (i : Nat) (h : i < l.length) : endsN l (i + 1) = endsN l i + (encL l[i]).length := by
  unfold endsN
  rw [List.take_succ_eq_append_getElem h, joinL_snoc, List.length_append]
theorem endsN_mono (l : List RecD) (i j : Nat) (h : i ≤ j) : endsN l i ≤ endsN l j := by
  unfold endsN
  have e := joinL_take_drop (l.take j) i
  rw [List.take_take, Nat.min_eq_left h] at e
  rw [e, List.length_append]
  omega
theorem rest_at (l : List RecD) (cut i : Nat) (h : endsN l i ≤ cut) : ((joinL l).take cut).drop (endsN l i) = (joinL (l.drop i)).take (cut - endsN l i) := by
  rw [List.drop_take]
  congr 1
  rw [joinL_take_drop l i]
  unfold endsN
  rw [List.drop_left]
theorem back_at (l : List RecD) (hr : ∀ r ∈ l, rightB r = true) (ok : ∀ r ∈ l, okR r) (cut i : Nat) (hi : i < l.length) (hc : endsN l (i + 1) ≤ cut) :
    decR (((joinL l).take cut).drop (endsN l i)) = l[i] ∧ decN (((joinL l).take cut).drop (endsN l i)) = (encL l[i]).length := by
  have hs := endsN_succ l i hi
  rw [rest_at l cut i (by omega)]
  have hp : encL l[i] <+: (joinL (l.drop i)).take (cut - endsN l i) := by
    have e : joinL (l.drop i) = encL l[i] ++ joinL (l.drop (i + 1)) := by
      rw [List.drop_eq_getElem_cons hi, joinL_cons]
    rw [e, List.take_append, List.take_of_length_le (by omega)]
    exact List.prefix_append _ _
  have := dec_of _ l[i] (hr _ (List.getElem_mem hi)) (ok _ (List.getElem_mem hi)) hp
  exact ⟨this.2.1, this.2.2⟩
theorem back_stop (l : List RecD) (hr : ∀ r ∈ l, rightB r = true) (ok : ∀ r ∈ l, okR r) (cut k : Nat) (hk : k ≤ l.length) (hc : endsN l k ≤ cut) (hn : k < l.length → cut < endsN l (k + 1)) :
    decN (((joinL l).take cut).drop (endsN l k)) = 0 := by
  rw [rest_at l cut k hc]
  have hbt : isBytes ((joinL (l.drop k)).take (cut - endsN l k)) := (joinL_bytes _ (fun r h => ok r (List.mem_of_mem_drop h))).take _
  refine dec_none _ (fun r okr hrr hp => ?_) hbt
  have hl := (encL_bd r).1
  rcases Nat.lt_or_ge k l.length with hlt | hge
  · have hs := endsN_succ l k hlt
    have hn := hn hlt
    have e : joinL (l.drop k) = encL l[k] ++ joinL (l.drop (k + 1)) := by
      rw [List.drop_eq_getElem_cons hlt, joinL_cons]
    rw [e, List.take_append_of_le_length (by omega)] at hp
    have hp2 : encL r <+: encL l[k] := hp.trans (List.take_prefix _ _)
    have er := enc_apart r l[k] hrr (hr _ (List.getElem_mem hlt)) okr (ok _ (List.getElem_mem hlt)) hp2
    have hle := hp.length_le
    rw [er, List.length_take] at hle
    omega
  · obtain rfl : k = l.length := by omega
    have hle := hp.length_le
    have h0 : (joinL ([] : List RecD)).length = 0 := rfl
    rw [List.drop_length, List.length_take, h0] at hle
    omega
/-- Right records come back from their bytes, cut anywhere. -/
theorem back_all (l : List RecD) (hr : ∀ r ∈ l, rightB r = true) (ok : ∀ r ∈ l, okR r) (cut k : Nat) (hk : k ≤ l.length) (hc : endsN l k ≤ cut) (hn : k < l.length → cut < endsN l (k + 1)) :
    Stops ((joinL l).take cut) k ∧ posN ((joinL l).take cut) k = endsN l k ∧ recsN ((joinL l).take cut) k = l.take k := by
  have key : ∀ i, i ≤ k → posN ((joinL l).take cut) i = endsN l i ∧ recsN ((joinL l).take cut) i = l.take i ∧ Goes ((joinL l).take cut) i := by
    intro i
    induction i with
    | zero => intro _; exact ⟨by simp [posN, endsN, joinL], by simp [recsN], fun i hi => absurd hi (by omega)⟩
    | succ i ih =>
      intro hi
      obtain ⟨h1, h2, h3⟩ := ih (by omega)
      have hlt : i < l.length := by omega
      have hm := endsN_mono l (i + 1) k hi
      have hb := back_at l hr ok cut i hlt (by omega)
      rw [← h1] at hb
      refine ⟨?_, ?_, h3.succ ?_⟩
      · rw [posN_succ, hb.2, h1, endsN_succ l i hlt]
      · rw [recsN_succ, hb.1, h2, List.take_succ_eq_append_getElem hlt]
      · have := (encL_bd l[i]).1
        rw [hb.2]; omega
  obtain ⟨h1, h2, h3⟩ := key k (Nat.le_refl _)
  refine ⟨⟨h3, ?_⟩, h1, h2⟩
  rw [h1]
  exact back_stop l hr ok cut k hk hc hn
end Go.Proofs.Ytdmkkfpbgpijjaa
namespace Go.Proofs.Ytdmkkfpbgpijjaa
open Go.RowKit Go.Deep

theorem strOfNums_inj {xs ys : List Int} (hx : isBytes xs) (hy : isBytes ys) : (strOfNums xs = strOfNums ys) ↔ xs = ys := by
  constructor
  · intro h
    have h1 : (strOfNums xs).data.toList = (strOfNums ys).data.toList := by rw [h]
    rw [strOfNums_data, strOfNums_data] at h1
    have hl : xs.length = ys.length := by have := congrArg List.length h1; simpa using this
    apply List.ext_getElem hl
    intro i h2 h3
    have e : (xs.map fun n => UInt8.ofNat n.toNat)[i]? = (ys.map fun n => UInt8.ofNat n.toNat)[i]? := by rw [h1]
    simp [h2, h3] at e
    have e2 := congrArg UInt8.toNat e
    have a := hx _ (List.getElem_mem h2)
    have b := hy _ (List.getElem_mem h3)
    simp at e2
    omega
  · rintro rfl; rfl
theorem str_good (A : Option Addr) (c : Nat) (zs : List Int) (l : Nat) (hl : zs.length = l) (w : World) (g : Good A c zs w) (src dst e : TypeId) (hs : Try.prog.underlying src = some (.slice e)) (he : Try.prog.underlying e = some (.int .u8)) (hd : Try.prog.underlying dst = some .string) : (convert src dst (.slice A l c)).run Try.prog w = .ok (.string (strOfNums zs)) w := by
  by_cases h0 : 0 < zs.length
  · obtain ⟨b, off, rfl, _, hc⟩ := g.1 h0
    refine run_convert_bytes_arg w src e hs he b off l c zs hl (fun i hi => ?_) dst hd
    rw [hc i (by omega)]
    simp [List.getD]
  · obtain rfl : zs = [] := List.eq_nil_of_length_eq_zero (by omega)
    obtain rfl : l = 0 := by simpa using hl.symm
    rw [run_convert_bytes_string w src dst e _ 0 c hs he hd]
    cases A <;> simp [Conv.bytesToString, loadCells] <;> rfl

set_option maxRecDepth 100000 in
set_option maxHeartbeats 1000000 in
theorem equal_any (A A' : Option Addr) (xs ys : List Int) (c c' l l' : Nat) (o : Bool) (hll : xs.length = l) (hll' : ys.length = l') (hx : isBytes xs) (hy : isBytes ys) (ho : (xs == ys) = o) (w : World) (g : Good A c xs w) (g' : Good A' c' ys w) :
    Calls Try.prog 51 #[.slice A l c, .slice A' l' c'] w fun e w' => e = .returned (.bool o) ∧ w = w' := by
  have k1 := str_good A c xs l hll w g 52 9 5 Try.underlying52 Try.underlying5 Try.underlying9
  have k2 := str_good A' c' ys l' hll' w g' 52 9 5 Try.underlying52 Try.underlying5 Try.underlying9
  have hi := Lib.hid (strOfNums_inj hx hy)
  clear g g' hll hll' hx hy
  go_enter Try.func51, Try.ntmps51
  go_wp2
  go_ret
  refine ⟨?_, rfl⟩
  show Ending.returned (.bool ((strOfNums xs).toList == (strOfNums ys).toList)) = _
  rw [← ho, Lib.strOfNums_toList, Lib.strOfNums_toList]
  congr 2
  rw [Bool.eq_iff_iff, beq_iff_eq, beq_iff_eq, ← hi.out]
  constructor
  · intro h
    have h2 : (strOfNums xs).data = (strOfNums ys).data := Array.toList_inj.1 (by rw [strOfNums_data, strOfNums_data]; exact h)
    exact ByteArray.ext h2
  · intro h; rw [← Lib.strOfNums_toList, ← Lib.strOfNums_toList, h]

end Go.Proofs.Ytdmkkfpbgpijjaa
namespace Go.Proofs.Ytdmkkfpbgpijjaa
open Go.RowKit Go.Deep
set_option linter.unusedVariables false

set_option maxRecDepth 100000 in
set_option maxHeartbeats 1000000 in
theorem hasPrefix_no (A A' : Option Addr) (l l' c c' : Nat) (hl : l < l') (w : World) :
    Calls Try.prog 63 #[.slice A l c, .slice A' l' c'] w fun e w' => e = .returned (.bool false) ∧ w = w' := by
  have hd : decide ((l' : Int) ≤ (l : Int)) = false := by simp; omega
  have hd2 : decide (l' ≤ l) = false := by simp; omega
  go_enter Try.func63, Try.ntmps63
  go_wp2
  go_ret
  exact ⟨rfl, rfl⟩
set_option maxRecDepth 100000 in
set_option maxHeartbeats 1000000 in
theorem hasPrefix_yes (A A' : Option Addr) (xs ys : List Int) (l l' c c' : Nat) (o : Bool) (hll : xs.length = l) (hll' : ys.length = l') (hx : isBytes xs) (hy : isBytes ys) (hl : l' ≤ l) (h0 : 0 < l') (ho : (xs.take l' == ys) = o) (w : World) (g : Good A c xs w) (g' : Good A' c' ys w) :
    Calls Try.prog 63 #[.slice A l c, .slice A' l' c'] w fun e w' => e = .returned (.bool o) ∧ w = w' := by
  have hlt : (xs.take l').length = l' := by rw [List.length_take]; omega
  obtain ⟨b, off, rfl⟩ := g.some (by omega)
  have c1 := equal_any (some ⟨b, off, none⟩) A' (xs.take l') ys c c' l' l' o hlt hll' (hx.take l') hy ho w (g.take l') g'
  have hlc : l ≤ c := by have := g.2.1; omega
  have hlc' : l' ≤ c := by omega
  clear hlt g g' ho hx hy
  go_enter Try.func63, Try.ntmps63
  go_wp2_with fail
  refine c1.mono ?_
  rintro e w' ⟨rfl, rfl⟩
  go_wp2
  go_ret
  exact ⟨rfl, rfl⟩
/-- bytes.HasPrefix, where what is looked for has bytes. -/
theorem hasPrefix_any (A A' : Option Addr) (xs ys : List Int) (l l' c c' : Nat) (o : Bool) (hll : xs.length = l) (hll' : ys.length = l') (hx : isBytes xs) (hy : isBytes ys) (h0 : 0 < l') (ho : hasP xs ys = o) (w : World) (g : Good A c xs w) (g' : Good A' c' ys w) :
    Calls Try.prog 63 #[.slice A l c, .slice A' l' c'] w fun e w' => e = .returned (.bool o) ∧ w = w' := by
  by_cases hl : l' ≤ l
  · refine hasPrefix_yes A A' xs ys l l' c c' o hll hll' hx hy hl h0 ?_ w g g'
    rw [← ho]
    simp only [hasP, hll, hll', decide_eq_true hl, Bool.true_and]
  · have e : hasP xs ys = false := by simp only [hasP, hll, hll', decide_eq_false hl, Bool.false_and]
    rw [e] at ho
    subst ho
    exact hasPrefix_no A A' l l' c c' (by omega) w

def UnpSays (b off l c n k : Nat) (vs : List Int) (w : World) (e : Ending) (w' : World) : Prop :=
  ∃ d, e = .returned (.tuple #[.slice (some ⟨d, 0, none⟩) k k, .slice (some ⟨b, off + n, none⟩) (l - n) (c - n)]) ∧ Ints .i64 w'.heap.size w' (some ⟨d, 0, none⟩) vs ∧ w.heap.size ≤ d ∧ d < w'.heap.size ∧ Below w.heap.size w w'
set_option maxRecDepth 100000 in
set_option maxHeartbeats 1000000 in
theorem unpacked_any (b off l c n k c2 u : Nat) (zs ws : List Int) (A2 : Option Addr) (hl : zs.length = l) (hn : n ≤ l) (hnc : n < c) (hn8 : n ≤ 8) (hz : isBytes zs) (hk : ws.length = k) (hk0 : 0 < k) (hu : fromN (zs.take n) = u) (ho : unpackOK ws u = true) (w : World) (g : Good (some ⟨b, off, none⟩) c zs w) (hI : Ints .i64 w.heap.size w A2 ws) :
    Calls Try.prog 75 #[.slice (some ⟨b, off, none⟩) l c, .int .i64 n, .slice A2 k c2] w (UnpSays b off l c n k (unpackL ws u) w) := by
  have hlt : (zs.take n).length = n := by rw [List.length_take]; omega
  have c1 := from_yes (some ⟨b, off, none⟩) c (zs.take n) (hz.take n) (by omega) w (g.1.take n)
  rw [hu, hlt] at c1
  have hu2 : u < 18446744073709551616 := by rw [← hu]; exact fromN_8 zs hz n hn8
  have c2' := fun W h => unpack_yes A2 ws c2 u hu2 W h ho
  rw [hk] at c2'
  unfold UnpackYes at c2'
  rw [hk] at c2'
  have hlc : l ≤ c := by have := g.2.1; omega
  have i0 : (0 : Int) ≤ (n : Int) := by omega
  have i1 : (n : Int) ≤ (l : Int) := by omega
  have i2 : ¬ c = n := by omega
  have i3 : n ≤ c := by omega
  have HI := fun W h => Lib.hid ((hI.below (B' := w.heap.size) (w' := W) h (Nat.le_refl _)).more h.size)
  have HV := Lib.hid ((unpackL_length ws u).trans hk)
  generalize unpackL ws u = vs at *
  clear hlt g hu ho hz hl hk hu2 hI
  go_enter Try.func75, Try.ntmps75
  go_wp2_with fail
  refine c1.mono ?_
  rintro e w1 ⟨rfl, b1⟩
  go_wp2_with fail
  refine (c2' _ (HI _ b1).out).mono ?_
  rintro e w2 ⟨rfl, i, b2⟩
  have hd2 : w1.heap.size < w2.heap.size := by
    obtain ⟨b', off', e, hlt, _⟩ := i (by rw [HV.out]; exact hk0)
    cases e
    exact hlt
  clear c1 c2' HI
  go_wp2_with fail
  go_quiet (fail)
  go_wp2
  go_ret2
  exact ⟨w1.heap.size, rfl, i, b1.size, hd2, below_drewN (below_more b1 b2 (Nat.le_refl _)) _⟩
end Go.Proofs.Ytdmkkfpbgpijjaa
namespace Go.Proofs.Ytdmkkfpbgpijjaa
open Go.RowKit Go.Deep
set_option linter.unusedVariables false

def RvSays (t : Bool) (n : Int) (A0 : Option Addr) (c0 : Nat) (zs0 zs : List Int) (w : World) (e : Ending) (w' : World) : Prop :=
  ∃ A c, e = .returned (.tuple #[.agg #[.bool t, .int .i64 n], .slice A zs.length c]) ∧ (∀ W, Good A0 c0 zs0 W → Good A c zs W) ∧ Below w.heap.size w w'
theorem below_store2 {w W0 w1 : World} (h0 : Below w.heap.size w W0) (h1 : Below w.heap.size W0 w1) (v v' : Value) : Below w.heap.size w ((w1.setCell ⟨w.heap.size, 0, none⟩ v).setCell ⟨w.heap.size, 1, none⟩ v').drew :=
  (((h0.trans h1).setCell (p := ⟨w.heap.size, 0, none⟩) (Nat.le_refl _) v).setCell (p := ⟨w.heap.size, 1, none⟩) (Nat.le_refl _) v').drew
set_option maxRecDepth 100000 in
set_option maxHeartbeats 1000000 in
theorem readVal_no (A : Option Addr) (l c : Nat) (k : Int) (zs : List Int) (hl : zs.length = l) (w : World) (g : Good A c zs w) :
    Calls Try.prog 85 #[.slice A l c, .int .i64 0, .int .i64 k] w (RvSays false 0 A c zs zs w) := by
  have hb := Lib.hid hl
  clear g hl
  go_enter Try.func85, Try.ntmps85
  go_wp2
  refine bodyPost_ret (v := .tuple #[.agg #[.bool false, .int .i64 0], .slice A l c]) (by simp [results, Try.results85, go_sem]) rfl ?_
  exact ⟨A, c, by rw [hb.out], fun _ h => h, (Below.refl _ _).alloc (Nat.le_refl _) _⟩
set_option maxRecDepth 100000 in
set_option maxHeartbeats 1000000 in
theorem readVal_yes (b off l c k q : Nat) (z : Int) (zs : List Int) (hl : zs.length = l) (hk : k + 1 ≤ l) (hk8 : k ≤ 7) (hz : isBytes zs) (hq : fromN (zs.take (k + 1)) = q) (hzg : zagI q = z) (w : World) (g : Good (some ⟨b, off, none⟩) c zs w) :
    Calls Try.prog 85 #[.slice (some ⟨b, off, none⟩) l c, .int .i64 1, .int .i64 k] w (RvSays true z (some ⟨b, off, none⟩) c zs (zs.drop (k + 1)) w) := by
  obtain ⟨W0, hW0⟩ : ∃ W0, W0 = w.alloc (.cells #[.bool false, .int .i64 0] 46) := ⟨_, rfl⟩
  have hs0 : W0.heap.size = w.heap.size + 1 := by rw [hW0]; simp
  have hw0 : Below w.heap.size w W0 := by rw [hW0]; exact (Below.refl _ _).alloc (Nat.le_refl _) _
  have a0 : W0.cell? ⟨w.heap.size, 0, none⟩ = some (.bool false) := by rw [hW0]; simp [go_sem]
  have a1 : W0.cell? ⟨w.heap.size, 1, none⟩ = some (.int .i64 0) := by rw [hW0]; simp [go_sem]
  have f0 : W0.frozen? ⟨w.heap.size, 0, none⟩ = false := by rw [hW0]; simp [go_sem]
  have f1 : W0.frozen? ⟨w.heap.size, 1, none⟩ = false := by rw [hW0]; simp [go_sem]
  have hlt : (zs.take (k + 1)).length = k + 1 := by rw [List.length_take]; omega
  have c1 := fun W h => from_yes (some ⟨b, off, none⟩) c (zs.take (k + 1)) (hz.take _) (by omega) W h
  rw [hq, hlt] at c1
  have hu : q < 18446744073709551616 := by rw [← hq]; exact fromN_8 zs hz (k + 1) (by omega)
  have c2 := fun W => zag_any q hu W
  rw [hzg] at c2
  have gW := g.below hw0
  have hlc : l ≤ c := by have := g.2.1; omega
  have i0 : (0 : Int) ≤ (k : Int) + 1 := by omega
  have i1 : (k : Int) + 1 ≤ (l : Int) := by omega
  have i3 : (k : Int) + 1 ≤ (c : Int) := by omega
  have it : ((k : Int) + 1).toNat = k + 1 := by omega
  have hc1 := Lib.hid (c1 W0 (gW.1.take _))
  clear c1 hq hzg hlt g
  have H := Lib.hid hl
  have HZ := Lib.hid hz
  clear hl hz
  go_enter Try.func85, Try.ntmps85
  go_wp2_with fail
  rw [← hW0]
  refine hc1.out.mono ?_
  rintro e w1 ⟨rfl, b1⟩
  have q0 : w1.cell? ⟨w.heap.size, 0, none⟩ = some (.bool false) := (b1.cell (p := ⟨w.heap.size, 0, none⟩) (by show w.heap.size < _; omega)).trans a0
  have q1 : w1.cell? ⟨w.heap.size, 1, none⟩ = some (.int .i64 0) := (b1.cell (p := ⟨w.heap.size, 1, none⟩) (by show w.heap.size < _; omega)).trans a1
  have p0 : w1.frozen? ⟨w.heap.size, 0, none⟩ = false := (b1.frozen (p := ⟨w.heap.size, 0, none⟩) (by show w.heap.size < _; omega)).trans f0
  have p1 : w1.frozen? ⟨w.heap.size, 1, none⟩ = false := (b1.frozen (p := ⟨w.heap.size, 1, none⟩) (by show w.heap.size < _; omega)).trans f1
  clear hW0 hc1 a0 a1 f0 f1 gW
  by_cases hcase : c = k + 1
  · have hc2 := Lib.hid hcase; obtain rfl := hcase
    go_wp2_with fail
    go_region_held3 (fun _ => True) (exact trivial) ((go_at_call 88; (with_reducible refine (c2 _).mono ?_); rintro e w' ⟨rfl, rfl⟩))
    clear i0 i1 i3 it c2
    go_wp2
    refine bodyPost_ret (v := .tuple #[.agg #[.bool true, .int .i64 z], .slice (some ⟨b, off, none⟩) 0 0]) ?_ rfl ?_
    · simp [results, Try.results85, go_sem, q0, q1]
    · have e0 : zs.drop (k + 1) = [] := List.drop_of_length_le (by rw [H.out]; omega)
      rw [e0]
      exact ⟨some ⟨b, off, none⟩, 0, rfl, fun _ _ => ⟨Ints.nil, by simp, fun e => by cases e⟩, below_store2 hw0 (b1.mono (by omega)) _ _⟩
  · have i2 := hcase
    go_wp2_with fail
    go_region_held3 (fun _ => True) (exact trivial) ((go_at_call 88; (with_reducible refine (c2 _).mono ?_); rintro e w' ⟨rfl, rfl⟩))
    clear i0 i1 i3 it c2
    go_wp2
    refine bodyPost_ret (v := .tuple #[.agg #[.bool true, .int .i64 z], .slice (some ⟨b, off + (k + 1), none⟩) (l - (k + 1)) (c - (k + 1))]) ?_ rfl ?_
    · simp [results, Try.results85, go_sem, q0, q1]
    · exact ⟨some ⟨b, off + (k + 1), none⟩, c - (k + 1), by rw [List.length_drop, H.out], fun _ h => h.drop (k + 1) (by rw [H.out]; omega), below_store2 hw0 (b1.mono (by omega)) _ _⟩
/-- rec.readVal, where there are bytes enough. -/
theorem readVal_any (b off l c f k : Nat) (zs : List Int) (hl : zs.length = l) (hf : f ≤ 1) (hk : f = 1 → k + 1 ≤ l) (hk8 : k ≤ 7) (hz : isBytes zs) (w : World) (g : Good (some ⟨b, off, none⟩) c zs w) :
    Calls Try.prog 85 #[.slice (some ⟨b, off, none⟩) l c, .int .i64 f, .int .i64 k] w (RvSays (rdT f) (rdN zs f k) (some ⟨b, off, none⟩) c zs (rdR zs f k) w) := by
  have h01 : f = 0 ∨ f = 1 := by omega
  rcases h01 with rfl | rfl
  · exact readVal_no _ l c k zs hl w g
  · exact readVal_yes b off l c k _ _ zs hl (hk rfl) hk8 hz rfl rfl w g
end Go.Proofs.Ytdmkkfpbgpijjaa
namespace Go.Proofs.Ytdmkkfpbgpijjaa
open Go.RowKit Go.Deep
set_option linter.unusedVariables false

/-- A value lies in a block. -/
structure ValAt (W : World) (b : Nat) (t : Bool) (n : Int) : Prop where
  c0 : W.cell? ⟨b, 0, none⟩ = some (.bool t)
  c1 : W.cell? ⟨b, 1, none⟩ = some (.int .i64 n)
  f0 : W.frozen? ⟨b, 0, none⟩ = false
  f1 : W.frozen? ⟨b, 1, none⟩ = false
theorem ValAt.below {W W' : World} {b B : Nat} {t : Bool} {n : Int} (h : ValAt W b t n) (hb : Below B W W') (hB : b < B) : ValAt W' b t n :=
  ⟨(hb.cell (p := ⟨b, 0, none⟩) hB).trans h.c0, (hb.cell (p := ⟨b, 1, none⟩) hB).trans h.c1, (hb.frozen (p := ⟨b, 0, none⟩) hB).trans h.f0, (hb.frozen (p := ⟨b, 1, none⟩) hB).trans h.f1⟩
set_option maxRecDepth 100000 in
theorem valAt_new (w : World) (t : Bool) (n : Int) : ValAt (w.alloc (.cells #[.bool t, .int .i64 n] 46)) w.heap.size t n := by
  constructor <;> simp [go_sem]
/-- A value stored. -/
theorem ValAt.set {W : World} {b : Nat} {t : Bool} {n : Int} (h : ValAt W b t n) (t' : Bool) (n' : Int) : ValAt ((W.setCell ⟨b, 0, none⟩ (.bool t')).setCell ⟨b, 1, none⟩ (.int .i64 n')) b t' n' := by
  have h1 : (W.setCell ⟨b, 0, none⟩ (.bool t')).cell? ⟨b, 1, none⟩ = some (.int .i64 n) := by
    rw [World.cell?_setCell_other _ _ _ _ (by simp)]
    exact h.c1
  refine ⟨?_, World.cell?_setCell_same _ _ _ h1, ?_, ?_⟩
  · rw [World.cell?_setCell_other _ _ _ _ (by simp)]
    exact World.cell?_setCell_same _ _ _ h.c0
  · rw [World.frozen?_setCell, World.frozen?_setCell]; exact h.f0
  · rw [World.frozen?_setCell, World.frozen?_setCell]; exact h.f1
theorem cell_set2 (W : World) (b : Nat) (v v' : Value) (d i : Nat) (h : d ≠ b) : ((W.setCell ⟨b, 0, none⟩ v).setCell ⟨b, 1, none⟩ v').cell? ⟨d, i, none⟩ = W.cell? ⟨d, i, none⟩ := by
  have h2 : (⟨b, 1, none⟩ : Addr) ≠ ⟨d, i, none⟩ := fun e => h (by injection e with e; exact e.symm)
  have h3 : (⟨b, 0, none⟩ : Addr) ≠ ⟨d, i, none⟩ := fun e => h (by injection e with e; exact e.symm)
  rw [World.cell?_setCell_other _ _ _ _ h2, World.cell?_setCell_other _ _ _ _ h3]
theorem ValAt.other {W : World} {b d : Nat} {t : Bool} {n : Int} (h : ValAt W d t n) (hd : d ≠ b) (v v' : Value) : ValAt ((W.setCell ⟨b, 0, none⟩ v).setCell ⟨b, 1, none⟩ v') d t n :=
  ⟨(cell_set2 W b v v' d 0 hd).trans h.c0, (cell_set2 W b v v' d 1 hd).trans h.c1, (by rw [World.frozen?_setCell, World.frozen?_setCell]; exact h.f0), (by rw [World.frozen?_setCell, World.frozen?_setCell]; exact h.f1)⟩
theorem below_set2 {B : Nat} {w W : World} (h : Below B w W) (b : Nat) (hb : B ≤ b) (v v' : Value) : Below B w ((W.setCell ⟨b, 0, none⟩ v).setCell ⟨b, 1, none⟩ v') :=
  (h.setCell (p := ⟨b, 0, none⟩) hb v).setCell (p := ⟨b, 1, none⟩) hb v'
theorem flags_un (u : Nat) (h : u < 256) : unpackOK [1, 1, 3, 3] u = true ∧ unpackL [1, 1, 3, 3] u = [((u % 2 : Nat) : Int), ((u / 2 % 2 : Nat) : Int), ((u / 4 % 8 : Nat) : Int), ((u / 32 % 8 : Nat) : Int)] := by
  constructor
  · simp [unpackOK, okW, sumI, offN]; omega
  · rw [unpackL_eq _ (by simp)]
    simp [unpackR]
    omega
def RvsSays (t1 : Bool) (n1 : Int) (t2 : Bool) (n2 : Int) (w : World) (e : Ending) (w' : World) : Prop :=
  e = .returned (.tuple #[.agg #[.bool t1, .int .i64 n1], .agg #[.bool t2, .int .i64 n2]]) ∧ Below w.heap.size w w'
set_option maxRecDepth 100000 in
set_option maxHeartbeats 2000000 in
theorem readVals_any (b off u : Nat) (zs : List Int) (hl : zs.length = 17) (hz : isBytes zs) (hu : fromN (zs.take 1) = u) (w : World) (g : Good (some ⟨b, off, none⟩) 17 zs w) :
    Calls Try.prog 76 #[.slice (some ⟨b, off, none⟩) 17 17] w
      (RvsSays (rdT (u % 2)) (rdN (zs.drop 1) (u % 2) (u / 4 % 8)) (rdT (u / 2 % 2)) (rdN (rdR (zs.drop 1) (u % 2) (u / 4 % 8)) (u / 2 % 2) (u / 32 % 8)) w) := by
  have hu256 : u < 256 := by rw [← hu]; exact fromN_k zs hz 1
  have hf := flags_un u hu256
  have hl1 : (zs.drop 1).length = 16 := by rw [List.length_drop]; omega
  have hz1 := hz.drop 1
  have x1 : u % 2 ≤ 1 := by omega
  have x2 : u / 2 % 2 ≤ 1 := by omega
  have x3 : u / 4 % 8 ≤ 7 := by omega
  have x4 : u / 32 % 8 ≤ 7 := by omega
  obtain ⟨ys, hys⟩ : ∃ ys, rdR (zs.drop 1) (u % 2) (u / 4 % 8) = ys := ⟨_, rfl⟩
  have hzy : isBytes ys := by rw [← hys]; exact rdR_bytes hz1 _ _
  have hly : 8 ≤ ys.length ∧ ys.length ≤ 16 := by
    rw [← hys]; unfold rdR
    split
    · omega
    · rw [List.length_drop]; omega
  rw [hys]
  have F1 : ∀ W, Calls Try.prog 71 #[] W fun e w' => ∃ A, e = .returned (.slice A 4 4) ∧ Ints .i64 w'.heap.size w' A [1, 1, 3, 3] ∧ Below W.heap.size W w' := fun W => (flagWidths_any W).mono fun e w' h => ⟨_, h⟩
  have F2 : ∀ A2 W, Good (some ⟨b, off, none⟩) 17 zs W → Ints .i64 W.heap.size W A2 [1, 1, 3, 3] → Calls Try.prog 75 #[.slice (some ⟨b, off, none⟩) 17 17, .int .i64 1, .slice A2 4 4] W fun e w' => ∃ d, e = .returned (.tuple #[.slice (some ⟨d, 0, none⟩) 4 4, .slice (some ⟨b, off + 1, none⟩) 16 16]) ∧ Ints .i64 w'.heap.size w' (some ⟨d, 0, none⟩) (unpackL [1, 1, 3, 3] u) ∧ W.heap.size ≤ d ∧ d < w'.heap.size ∧ Below W.heap.size W w' := fun A2 W h => unpacked_any b off 17 17 1 4 4 u zs [1, 1, 3, 3] A2 hl (by omega) (by omega) (by omega) hz rfl (by omega) hu hf.1 W h
  rw [hf.2] at F2
  have F3 := fun W (h : Good (some ⟨b, off + 1, none⟩) 16 (zs.drop 1) W) => readVal_any b (off + 1) 16 16 (u % 2) (u / 4 % 8) (zs.drop 1) hl1 x1 (by omega) x3 hz1 W h
  rw [hys] at F3
  have F4 := fun b' off' c W (h : Good (some ⟨b', off', none⟩) c ys W) => readVal_any b' off' ys.length c (u / 2 % 2) (u / 32 % 8) ys rfl x2 (by omega) x4 hzy W h
  generalize rdN (zs.drop 1) (u % 2) (u / 4 % 8) = n1 at *
  generalize rdN ys (u / 2 % 2) (u / 32 % 8) = n2 at *
  generalize rdT (u % 2) = t1 at *
  generalize rdT (u / 2 % 2) = t2 at *
  generalize u % 2 = f1 at *
  generalize u / 2 % 2 = f2 at *
  generalize u / 4 % 8 = f3 at *
  generalize u / 32 % 8 = f4 at *
  obtain ⟨W0, hW0⟩ : ∃ W0, W0 = (w.alloc (.cells #[.bool false, .int .i64 0] 46)).alloc (.cells #[.bool false, .int .i64 0] 46) := ⟨_, rfl⟩
  have hs0 : W0.heap.size = w.heap.size + 2 := by rw [hW0]; simp
  have hw0 : Below w.heap.size w W0 := by rw [hW0]; exact ((Below.refl _ _).alloc (Nat.le_refl _) _).alloc (by simp) _
  have va0 : ValAt W0 w.heap.size false 0 := by rw [hW0]; exact (valAt_new w false 0).below ((Below.refl _ _).alloc (Nat.le_refl _) _) (by simp)
  have vb0 : ValAt W0 (w.heap.size + 1) false 0 := by
    have := valAt_new (w.alloc (.cells #[.bool false, .int .i64 0] 46)) false 0
    rw [show (w.alloc (.cells #[.bool false, .int .i64 0] 46)).heap.size = w.heap.size + 1 by simp] at this
    rw [hW0]; exact this
  have gd : Good (some ⟨b, off + 1, none⟩) 16 (zs.drop 1) w := g.drop 1 (by omega)
  have HGD := Lib.hid gd
  have HL := Lib.hid hl
  have HLY := Lib.hid hly
  clear hl hu hf hl1 hys hly x1 x2 x3 x4 hu256
  go_enter Try.func76, Try.ntmps76
  go_wp2_with fail
  rw [← hW0]
  (with_reducible refine (F1 _).mono ?_)
  rintro e w1 ⟨A1, rfl, i1, k1⟩
  have g1 := (g.below hw0).below k1
  go_wp2_with fail
  (with_reducible refine (F2 _ _ g1 i1).mono ?_)
  rintro e w2 ⟨d, rfl, i2, hd, hd2, k2⟩
  have kk : Below W0.heap.size W0 w2 := below_more k1 k2 (Nat.le_refl _)
  have va2 := va0.below kk (by omega)
  have vb2 := vb0.below kk (by omega)
  have hsz2 : w.heap.size + 2 ≤ w2.heap.size := by have := kk.size; omega
  have kw : Below w.heap.size w w2 := hw0.trans (kk.mono (by omega))
  have gd2 := gd.below kw
  have hdn : d ≠ w.heap.size ∧ d ≠ w.heap.size + 1 := by have := k1.size; omega
  obtain ⟨d', o', e', hdlt, hdc⟩ := i2 (by simp)
  cases e'
  have e0 : w2.cell? ⟨d, 0, none⟩ = some (.int .i64 f1) := hdc 0 (by simp)
  have e1 : w2.cell? ⟨d, 1, none⟩ = some (.int .i64 f2) := hdc 1 (by simp)
  have e2 : w2.cell? ⟨d, 2, none⟩ = some (.int .i64 f3) := hdc 2 (by simp)
  have e3 : w2.cell? ⟨d, 3, none⟩ = some (.int .i64 f4) := hdc 3 (by simp)
  clear hdc i2 i1 k1 k2 kk g1 F1 F2 hW0 va0 vb0
  go_wp2_with fail
  have gd2d : Good (some ⟨b, off + 1, none⟩) 16 (zs.drop 1) w2.drew := gd2.drewN 1
  have kd2 : Below w2.heap.size w2 w2.drew := (Below.refl _ _).drew
  go_region_held3 (fun w' => w'.cell? ⟨d, 0, none⟩ = some (.int .i64 f1) ∧ w'.cell? ⟨d, 2, none⟩ = some (.int .i64 f3)) (first | assumption | exact ⟨e0, e2⟩ | exact ⟨st0 _ _, st2 _ _⟩ | exact ⟨q0, q2⟩) ((go_at_call 85; (with_reducible refine (F3 _ gd2d).mono ?_); rintro e w3 ⟨A3, c3, rfl, g3, k3⟩; have k3 : Below w2.heap.size w2 w3 := kd2.trans k3; have va3 := va2.below k3 (by omega); obtain ⟨m0, m1, m2, m3⟩ := va3; have q0 : w3.cell? ⟨d, 0, none⟩ = some (.int .i64 f1) := (k3.cell (p := ⟨d, 0, none⟩) hd2).trans e0; have q2 : w3.cell? ⟨d, 2, none⟩ = some (.int .i64 f3) := (k3.cell (p := ⟨d, 2, none⟩) hd2).trans e2; have st0 := fun v v' => (cell_set2 w3 w.heap.size v v' d 0 hdn.1).trans q0; have st2 := fun v v' => (cell_set2 w3 w.heap.size v v' d 2 hdn.1).trans q2))
  have G5 := g3 w HGD.out
  have va5 := (va2.below k3 (by omega)).set t1 n1
  have vb5 := (vb2.below k3 (by omega)).other (b := w.heap.size) (by omega) (.bool t1) (.int .i64 n1)
  have kw5 : Below w.heap.size w ((w3.setCell ⟨w.heap.size, 0, none⟩ (.bool t1)).setCell ⟨w.heap.size, 1, none⟩ (.int .i64 n1)) := below_set2 (below_more kw k3 (Nat.le_refl _)) w.heap.size (Nat.le_refl _) _ _
  have r1 := (cell_set2 w3 w.heap.size (.bool t1) (.int .i64 n1) d 1 hdn.1).trans ((k3.cell (p := ⟨d, 1, none⟩) hd2).trans e1)
  have r3 := (cell_set2 w3 w.heap.size (.bool t1) (.int .i64 n1) d 3 hdn.1).trans ((k3.cell (p := ⟨d, 3, none⟩) hd2).trans e3)
  have hs5 : w.heap.size + 2 ≤ ((w3.setCell ⟨w.heap.size, 0, none⟩ (.bool t1)).setCell ⟨w.heap.size, 1, none⟩ (.int .i64 n1)).heap.size ∧ d < ((w3.setCell ⟨w.heap.size, 0, none⟩ (.bool t1)).setCell ⟨w.heap.size, 1, none⟩ (.int .i64 n1)).heap.size := by
    have := k3.size
    simp
    omega
  clear va2 vb2 e0 e1 e2 e3 m0 m1 m2 m3 q0 q2 st0 st2 gd2 gd2d kd2 k3 F3 g3 hd2 gd hsz2 kw hdlt
  generalize ((w3.setCell ⟨w.heap.size, 0, none⟩ (.bool t1)).setCell ⟨w.heap.size, 1, none⟩ (.int .i64 n1)) = w5 at *
  obtain ⟨b', off', rfl⟩ := G5.some (by have := HLY.out; omega)
  have G6 := G5.below kw5
  have G6d : Good (some ⟨b', off', none⟩) c3 ys w5.drew := G6.drewN 1
  have kd5 : Below w5.heap.size w5 w5.drew := (Below.refl _ _).drew
  obtain ⟨hs5a, hs5b⟩ := hs5
  obtain ⟨l5, hl5⟩ : ∃ l5, ys.length = l5 := ⟨_, rfl⟩
  rw [hl5] at F4 ⊢
  clear HLY G5 hl5
  go_wp2_with fail
  go_region_held3 (fun w' => w'.cell? ⟨d, 1, none⟩ = some (.int .i64 f2) ∧ w'.cell? ⟨d, 3, none⟩ = some (.int .i64 f4)) (first | assumption | exact ⟨r1, r3⟩ | exact ⟨st0 _ _, st2 _ _⟩ | exact ⟨q0, q2⟩) ((go_at_call 85; (with_reducible refine (F4 _ _ _ _ G6d).mono ?_); rintro e w6 ⟨A6, c6, rfl, g6, k6⟩; have k6 : Below w5.heap.size w5 w6 := kd5.trans k6; have vb6 := vb5.below k6 (by omega); obtain ⟨m0, m1, m2, m3⟩ := vb6; have q0 : w6.cell? ⟨d, 1, none⟩ = some (.int .i64 f2) := (k6.cell (p := ⟨d, 1, none⟩) hs5b).trans r1; have q2 : w6.cell? ⟨d, 3, none⟩ = some (.int .i64 f4) := (k6.cell (p := ⟨d, 3, none⟩) hs5b).trans r3; have st0 := fun v v' => (cell_set2 w6 (w.heap.size + 1) v v' d 1 hdn.2).trans q0; have st2 := fun v v' => (cell_set2 w6 (w.heap.size + 1) v v' d 3 hdn.2).trans q2))
  have va7 := (va5.below k6 (by omega)).other (b := w.heap.size + 1) (by omega) (.bool t2) (.int .i64 n2)
  have vb7 := (vb5.below k6 (by omega)).set t2 n2
  have kw7 : Below w.heap.size w ((w6.setCell ⟨w.heap.size + 1, 0, none⟩ (.bool t2)).setCell ⟨w.heap.size + 1, 1, none⟩ (.int .i64 n2)) := below_set2 (below_more kw5 k6 (Nat.le_refl _)) (w.heap.size + 1) (by omega) _ _
  clear va5 vb5 m0 m1 m2 m3 q0 q2 st0 st2 G6 G6d kd5 k6 F4 g6 r1 r3
  generalize ((w6.setCell ⟨w.heap.size + 1, 0, none⟩ (.bool t2)).setCell ⟨w.heap.size + 1, 1, none⟩ (.int .i64 n2)) = w7 at *
  obtain ⟨x0, x1, x2, x3⟩ := va7
  obtain ⟨y0, y1, y2, y3⟩ := vb7
  go_wp2_with fail
  go_region
  go_wp2
  refine bodyPost_ret (v := .tuple #[.agg #[.bool t1, .int .i64 n1], .agg #[.bool t2, .int .i64 n2]]) ?_ rfl ⟨rfl, ?_⟩
  · simp [results, Try.results76, go_sem, x0, x1, y0, y1]
  · repeat first | exact kw7 | refine Below.setCell ?_ (by first | exact Nat.le_refl _ | simp) _ | refine Below.drew ?_
end Go.Proofs.Ytdmkkfpbgpijjaa
