/- What any stage needs of lists of numbers in memory: a slice reads as a list, lists compared, lists copied. Nothing of one layer. Bytes in memory, for any stage: Good (a slice holds bytes), Owns (new bytes of one's own), append onto them, CopyBytes, SameBytes. The general part of Sb: never import both. -/
import Derived.Test.YtdmkkfpbgpijjaaGreatRows
import Derived.WalkKit
import Derived.WalkSpells
import Derived.WalkLawsBesides
import Derived.Deep.QuietTactic
import Derived.BigQuiet
import Derived.Lib.Hide
import Derived.Deep.OwnRows
import Derived.Laws.AppendOwnNone
import Derived.Maps.AppendAt
import Derived.Laws.OwnMore
namespace Go.Proofs.YtdmkkfpbgpijjaaGreat
open Go.RowKit Go.Deep

/-- A slice at A holds the numbers zs, each of kind k, in a block below B; nil and empty ones too. -/
def Ints (k : IntKind) (B : Nat) (w : World) (A : Option Addr) (zs : List Int) : Prop :=
  0 < zs.length → ∃ b off, A = some ⟨b, off, none⟩ ∧ b < B ∧ ∀ j, j < zs.length → w.cell? ⟨b, off + j, none⟩ = some (.int k (zs[j]?.getD 0))

theorem Ints.below {k : IntKind} {B B' : Nat} {w w' : World} {A : Option Addr} {zs : List Int} (h : Ints k B w A zs) (hb : Below B' w w') (hB : B ≤ B') : Ints k B w' A zs := fun h0 => by
  obtain ⟨b, off, e, hlt, hc⟩ := h h0
  exact ⟨b, off, e, hlt, fun j hj => (hb.cell (p := ⟨b, off + j, none⟩) (by show b < B'; omega)).trans (hc j hj)⟩
theorem Ints.more {k : IntKind} {B B' : Nat} {w : World} {A : Option Addr} {zs : List Int} (h : Ints k B w A zs) (hB : B ≤ B') : Ints k B' w A zs := fun h0 => by
  obtain ⟨b, off, e, hlt, hc⟩ := h h0
  exact ⟨b, off, e, by omega, hc⟩
theorem Ints.drewN {k : IntKind} {B : Nat} {w : World} {A : Option Addr} {zs : List Int} (h : Ints k B w A zs) (n : Nat) : Ints k B (w.drewN n) A zs := h
theorem Ints.nil {k : IntKind} {B : Nat} {w : World} {A : Option Addr} : Ints k B w A [] := fun h => absurd h (by simp)

theorem Ints.alloc {k : IntKind} {B : Nat} {w : World} {A : Option Addr} {zs : List Int} (h : Ints k B w A zs) (hB : B ≤ w.heap.size) (o : Obj) : Ints k B (w.alloc o) A zs := h.below ((Below.refl _ _).alloc hB o) (Nat.le_refl _)
theorem ints_row {k : IntKind} {t : TypeId} {b n : Nat} {w : World} {f : Nat → Value} (h : w.rowIs b t n f) (zs : List Int) (hl : zs.length = n) (hz : ∀ j, j < n → f j = .int k (zs[j]?.getD 0)) : Ints k w.heap.size w (some ⟨b, 0, none⟩) zs := fun _ =>
  ⟨b, 0, rfl, h.lt, fun j hj => by rw [Nat.zero_add, h.cell (by omega), hz j (by omega)]⟩

theorem Ints.take {k : IntKind} {B : Nat} {w : World} {A : Option Addr} {zs : List Int} (h : Ints k B w A zs) (n : Nat) : Ints k B w A (zs.take n) := fun h0 => by
  have h1 : 0 < zs.length := by rw [List.length_take] at h0; omega
  obtain ⟨b, off, e, hlt, hc⟩ := h h1
  refine ⟨b, off, e, hlt, fun j hj => ?_⟩
  rw [List.length_take] at hj
  rw [hc j (by omega), List.getElem?_take_of_lt (by omega)]

theorem Ints.drop {k : IntKind} {B : Nat} {w : World} {b off : Nat} {zs : List Int} (h : Ints k B w (some ⟨b, off, none⟩) zs) (n : Nat) : Ints k B w (some ⟨b, off + n, none⟩) (zs.drop n) := fun h0 => by
  have h1 : 0 < zs.length := by rw [List.length_drop] at h0; omega
  obtain ⟨b', off', e, hlt, hc⟩ := h h1
  cases e
  refine ⟨b, off + n, rfl, hlt, fun j hj => ?_⟩
  rw [List.length_drop] at hj
  rw [Nat.add_assoc, hc (n + j) (by omega), List.getElem?_drop]
theorem below_more {B : Nat} {w w1 w2 : World} (h : Below B w w1) (k : Below w1.heap.size w1 w2) (hB : B ≤ w.heap.size) : Below B w w2 := h.trans (k.mono (Nat.le_trans hB h.size))
def Gives (f : Nat) (args : Array Value) (v : Value) : Prop := ∀ W : World, Calls Tryz.prog f args W fun e w' => e = .returned v ∧ W = w'
set_option maxRecDepth 100000 in
theorem info_u8 : (Tryz.prog.info? 5).map (fun i => (i.zero, i.size, i.bytes)) = some (some (.int .u8 0), 1, 1) := by kernel_rfl

/-! ### Are two lists the same? -/
theorem same_snoc (xs ys : List Int) (k : Nat) (h : xs.take k = ys.take k) (hx : k < xs.length) (hy : k < ys.length) (e : xs[k]?.getD 0 = ys[k]?.getD 0) : xs.take (k + 1) = ys.take (k + 1) := by
  rw [List.take_succ_eq_append_getElem hx, List.take_succ_eq_append_getElem hy, h]
  simp [hx, hy] at e
  rw [e]
theorem same_bad (xs ys : List Int) (k : Nat) (e : xs[k]?.getD 0 ≠ ys[k]?.getD 0) : (xs == ys) = false := by
  simp only [beq_eq_false_iff_ne]
  rintro rfl; exact e rfl

/-- Only the order's tape has moved on. -/
def Dr (w w' : World) : Prop := ∃ n, w' = w.drewN n
theorem Dr.refl (w : World) : Dr w w := ⟨0, rfl⟩
theorem Dr.of {w : World} (n : Nat) : Dr w (w.drewN n) := ⟨n, rfl⟩
theorem Dr.of2 {w : World} (n m : Nat) : Dr w ((w.drewN n).drewN m) := ⟨n + m, by rw [World.drewN_drewN]⟩
theorem Dr.below {w w' : World} (h : Dr w w') (B : Nat) (hB : B ≤ w.heap.size) : Below B w w' := by
  obtain ⟨n, rfl⟩ := h
  exact below_drewN ((Below.refl _ w).mono hB) n

set_option maxRecDepth 100000 in
set_option maxHeartbeats 400000 in
theorem sameBytes_any (A A' : Option Addr) (xs ys : List Int) (c c' B : Nat) (w : World) (h : Ints .u8 B w A xs) (h' : Ints .u8 B w A' ys) (hl : xs.length ≤ 17592186044416) (hl' : ys.length ≤ 17592186044416) :
    Calls Tryz.prog 25 #[.slice A xs.length c, .slice A' ys.length c'] w fun e w' => e = .returned (.bool (xs == ys)) ∧ Dr w w' := by
  by_cases hlen : xs.length = ys.length
  · have hne : ((xs.length : Int) != (ys.length : Int)) = false := by simp [hlen]
    have HL := Lib.hid hlen
    clear hlen
    go_enter Tryz.func25, Tryz.ntmps25
    go_wp2
    go_loopw [5] (fun i wr => ∃ k : Nat, k ≤ xs.length ∧ i = .int .i64 k ∧ xs.take k = ys.take k ∧ Dr w wr) (fun i _ => xs.length - (intOf i).toNat)
    case atStart => exact ⟨0, Nat.zero_le _, rfl, by simp, Dr.refl w⟩
    case round =>
      obtain ⟨k, hk, rfl, hs, n, rfl⟩ := hrel
      have HS := Lib.hid hs
      clear hs
      by_cases hlt : k < xs.length
      · have hlt' : k < ys.length := by have := HL.out; omega
        obtain ⟨b, off, rfl, hb, hc⟩ := h (by omega)
        obtain ⟨b', off', rfl, hb', hc'⟩ := h' (by omega)
        have hck : w.cell? ⟨b, off + k, none⟩ = some (.int .u8 (xs[k]?.getD 0)) := hc k hlt
        have hck' : w.cell? ⟨b', off' + k, none⟩ = some (.int .u8 (ys[k]?.getD 0)) := hc' k hlt'
        clear hc hc'
        have hsame := Lib.hid (fun e => same_snoc xs ys k HS.out hlt hlt' e)
        have hbad := Lib.hid (same_bad xs ys k)
        generalize xs[k]?.getD 0 = x at *
        generalize ys[k]?.getD 0 = y at *
        by_cases he : x = y
        · have het : (x != y) = false := by simp [he]
          have HE := Lib.hid he
          clear he
          go_wp2
          go_quiet (fail)
          go_wp2
          go_roundw
          case rel => exact ⟨k + 1, by omega, by go_num, hsame.out HE.out, Dr.of _⟩
          case measure => simp [intOf]; omega
        · have het : (x != y) = true := by simp [he]
          have HE := Lib.hid he
          clear he
          go_wp2
          go_quiet (fail)
          go_wp2
          go_ret
          exact ⟨by rw [hbad.out HE.out]; rfl, Dr.of2 _ _⟩
      · obtain rfl : k = xs.length := by omega
        go_wp2
        go_ret
        have e : xs = ys := by have := HS.out; rw [HL.out] at this; rw [List.take_length] at this; rw [← this, ← HL.out, List.take_length]
        exact ⟨by rw [e]; simp, Dr.of _⟩
  · have hne : ((xs.length : Int) != (ys.length : Int)) = true := by simp; omega
    have HL := Lib.hid hlen
    clear hlen
    go_enter Tryz.func25, Tryz.ntmps25
    go_wp2
    go_ret
    have e : (xs == ys) = false := by simp only [beq_eq_false_iff_ne]; rintro rfl; exact HL.out rfl
    exact ⟨by rw [e]; rfl, Dr.refl _⟩

/-- A call that answers a new list of numbers. -/
def GivesInts (k : IntKind) (zs : List Int) (w : World) (e : Ending) (w' : World) : Prop := ∃ A c, e = .returned (.slice A zs.length c) ∧ Ints k w'.heap.size w' A zs ∧ Below w.heap.size w w'

end Go.Proofs.YtdmkkfpbgpijjaaGreat
namespace Go.Proofs.YtdmkkfpbgpijjaaGreat
open Go.RowKit Go.Deep

def isBytes (zs : List Int) : Prop := ∀ z ∈ zs, 0 ≤ z ∧ z < 256
/-- A slice holds the bytes zs. -/
def Good (A : Option Addr) (c : Nat) (zs : List Int) (w : World) : Prop := Ints .u8 w.heap.size w A zs ∧ zs.length ≤ c ∧ (A = none → c = 0)
theorem Good.below {A : Option Addr} {c : Nat} {zs : List Int} {w w' : World} (h : Good A c zs w) (hb : Below w.heap.size w w') : Good A c zs w' := ⟨(h.1.below hb (Nat.le_refl _)).more hb.size, h.2⟩
theorem Good.alloc {A : Option Addr} {c : Nat} {zs : List Int} {w : World} (h : Good A c zs w) (o : Obj) : Good A c zs (w.alloc o) := h.below ((Below.refl _ _).alloc (Nat.le_refl _) o)
theorem Good.drewN {A : Option Addr} {c : Nat} {zs : List Int} {w : World} (h : Good A c zs w) (n : Nat) : Good A c zs (w.drewN n) := h.below (below_drewN (Below.refl _ _) n)
theorem Good.take {A : Option Addr} {c : Nat} {zs : List Int} {w : World} (h : Good A c zs w) (n : Nat) : Good A c (zs.take n) w := ⟨h.1.take n, by rw [List.length_take]; have := h.2.1; omega, h.2.2⟩
theorem Good.nil (w : World) : Good none 0 [] w := ⟨Ints.nil, by simp, fun _ => rfl⟩
theorem Good.drop {b off c : Nat} {zs : List Int} {w : World} (h : Good (some ⟨b, off, none⟩) c zs w) (n : Nat) (hn : n ≤ zs.length) : Good (some ⟨b, off + n, none⟩) (c - n) (zs.drop n) w := ⟨h.1.drop n, by rw [List.length_drop]; have := h.2.1; omega, fun e => by cases e⟩
theorem Good.some {A : Option Addr} {c : Nat} {zs : List Int} {w : World} (h : Good A c zs w) (h0 : 0 < zs.length) : ∃ b off, A = .some ⟨b, off, none⟩ := by
  obtain ⟨b, off, e, _⟩ := h.1 h0; exact ⟨b, off, e⟩

def Owns (B : Nat) (w : World) (v : Value) (zs : List Int) : Prop := w.ownsRow B 5 1 v zs.length (zs.map (Value.int .u8))
theorem Owns.good {B : Nat} {w : World} {v : Value} {zs : List Int} (h : Owns B w v zs) : ∃ A c, v = .slice A zs.length c ∧ Good A c zs w := by
  rcases h.2 with ⟨rfl, hn⟩ | ⟨g, cap, cur, rfl, _, hh, hnc, _, hsz, htk⟩
  · have : zs = [] := List.eq_nil_of_length_eq_zero hn
    subst this
    exact ⟨none, 0, rfl, Good.nil w⟩
  · refine ⟨some ⟨g, 0, none⟩, cap, rfl, fun _ => ⟨g, 0, rfl, (Array.getElem?_eq_some_iff.1 hh).1, fun j hj => ?_⟩, hnc, fun e => by cases e⟩
    have hc := World.ownsRow.cells h (g := g) rfl j (.int .u8 (zs[j]?.getD 0)) (by simp [hj])
    rw [Go.WideShapes.add_plain] at hc
    exact hc
theorem Owns.below {B : Nat} {w w' : World} {v : Value} {zs : List Int} (h : Owns B w v zs) (hb : Below w.heap.size w w') : Owns B w' v zs :=
  World.ownsRow.kept h (row := none) ⟨hb.os, hb.tape, hb.output, hb.size, fun j hj _ => hb.block j hj⟩ (by cases hv : v.ownBlock <;> simp)

/-- A call that answers new bytes, which no one else has. -/
def GivesB (zs : List Int) (w : World) (e : Ending) (w' : World) : Prop := ∃ v, e = .returned v ∧ Owns w.heap.size w' v zs ∧ Below w.heap.size w w'

/-! ### Bytes appended to bytes of one's own -/
theorem cells_of_good {A : Option Addr} {ad : Addr} {c : Nat} {ts : List Int} {W : World} (e : A = some ad) (g : Good A c ts W) : ∀ (j : Nat) (u : Value), (ts.map (Value.int .u8))[j]? = some u → W.cell? (ad.add j) = some u := by
  intro j u hu
  have hj : j < ts.length := by
    rcases Nat.lt_or_ge j ts.length with hlt | hge
    · exact hlt
    · rw [List.getElem?_eq_none (by simpa using hge)] at hu; cases hu
  obtain ⟨b, off, e2, hb, hcell⟩ := g.1 (by omega)
  rw [e] at e2
  obtain rfl : ad = ⟨b, off, none⟩ := by injection e2
  rw [Go.WideShapes.add_plain, hcell j hj]
  simpa [hj] using hu
theorem one_u8 (ts : List Int) : ∀ u ∈ ts.map (Value.int .u8), u.oneCell' = true := by
  intro u hu
  simp only [List.mem_map] at hu
  obtain ⟨z, _, rfl⟩ := hu
  rfl
theorem Good.none_nil {c : Nat} {ts : List Int} {W : World} (g : Good none c ts W) : ts = [] ∧ c = 0 := by
  refine ⟨?_, g.2.2 rfl⟩
  rcases Nat.eq_zero_or_pos ts.length with h0 | h0
  · exact List.eq_nil_of_length_eq_zero h0
  · obtain ⟨b, off, e, _⟩ := g.1 h0; cases e
theorem wpList_appendB {ops : Array Oper} {rest : List Oper} {o : Oper} {a : Act} {Q : Exit → Act → World → Prop} {W : World} (hgd : o.guard = none) (s x : Operand) (ho : o.op = .call { callee := .builtin .append, args := #[s, x], argTypes := #[39, 39] })
    (base : Nat) (v : Value) (zs : List Int) (hs : a.eval s = v) (hown : Owns base W v zs) (A' : Option Addr) (ts : List Int) (l' c' : Nat) (hx : a.eval x = .slice A' l' c') (hll : ts.length = l') (g : Good A' c' ts W) (hl : zs.length + ts.length ≤ 10000) (hbase : base ≤ W.heap.size) (w0 : World) (hb : Below base w0 W)
    (h : ∀ v' w', Owns base w' v' (zs ++ ts) → Below base w0 w' → wpList Tryz.prog ops Q rest (a.put o.dst v') w') : wpList Tryz.prog ops Q (o :: rest) a W := by
  obtain ⟨i0, hi, hz0, hz1, hz2⟩ := info_parts info_u8
  cases A' with
  | none =>
    obtain ⟨rfl, rfl⟩ := g.none_nil
    obtain rfl : l' = 0 := by simpa using hll.symm
    refine wpList_append_own_none hgd s x 39 ho base 5 i0 1 Tryz.underlying39 hi v _ _ hs hown hx (h v W ?_ hb)
    rw [List.append_nil]; exact hown
  | some ad =>
    refine wpList_append_own W hgd s x 39 ho base 5 i0 (.int .u8 0) 1 1 Tryz.underlying39 hi hz0 hz1 hz2 rfl (by decide) v zs.length _ hs hown ad l' c' (ts.map (Value.int .u8)) hx (by simp [hll]) (cells_of_good rfl g) (one_u8 ts) (by simp only [maxLen]; omega) (by omega) hbase (fun v' w' hown' hgrow _ => h v' w' ?_ (hb.grown hgrow hbase (fun k e => (World.ownsRow.lt hown k e).1)))
    unfold Owns
    rw [List.length_append, List.map_append, hll]
    exact hown'

set_option maxRecDepth 100000 in
set_option maxHeartbeats 1000000 in
theorem copyB (A : Option Addr) (zs : List Int) (c l : Nat) (hll : zs.length = l) (hl : l ≤ 2100) (w : World) (h : Good A c zs w) :
    Calls Tryz.prog 51 #[.slice A l c] w (GivesB zs w) := by
  obtain ⟨i0, hi, hz0, hz1, hz2⟩ := info_parts info_u8
  have hlit : (w.alloc (.cells #[] 5)).ownsRow w.heap.size 5 1 (.slice (some ⟨w.heap.size, 0, none⟩) 0 0) 0 [] := World.ownsRow_lit w #[] 0 (Nat.le_refl _) (by simp) (by simp)
  obtain ⟨h, _, hc⟩ := h
  cases A with
  | none =>
    have hz : zs = [] := by
      rcases Nat.eq_zero_or_pos zs.length with h0 | h0
      · exact List.eq_nil_of_length_eq_zero h0
      · obtain ⟨b, off, e, _⟩ := h h0; cases e
    subst hz
    obtain rfl : l = 0 := by simpa using hll.symm
    obtain rfl := hc rfl
    clear hll
    go_enter Tryz.func51, Tryz.ntmps51
    go_wp2_with (at_builtin; refine wpList_append_own_none rfl _ _ 39 rfl w.heap.size 5 i0 1 Tryz.underlying39 hi _ 0 [] rfl hlit rfl ?_)
    go_ret
    exact ⟨_, rfl, hlit, (Below.refl _ _).alloc (Nat.le_refl _) _⟩
  | some ad =>
    have hnews : ∀ (j : Nat) (u : Value), (zs.map (Value.int .u8))[j]? = some u → (w.alloc (.cells #[] 5)).cell? (ad.add j) = some u := by
      intro j u hu
      have hj : j < zs.length := by
        rcases Nat.lt_or_ge j zs.length with hlt | hge
        · exact hlt
        · rw [List.getElem?_eq_none (by simpa using hge)] at hu; cases hu
      obtain ⟨b, off, e, hb, hcell⟩ := h (by omega)
      obtain rfl : ad = ⟨b, off, none⟩ := by injection e
      rw [Go.WideShapes.add_plain, World.cell?_alloc_lt w _ _ hb, hcell j hj]
      simpa [hj] using hu
    have h1 : ∀ u ∈ zs.map (Value.int .u8), u.oneCell' = true := by
      intro u hu
      simp only [List.mem_map] at hu
      obtain ⟨z, _, rfl⟩ := hu
      rfl
    go_enter Tryz.func51, Tryz.ntmps51
    go_wp2_with (at_builtin; refine wpList_append_own _ rfl _ _ 39 rfl w.heap.size 5 i0 (.int .u8 0) 1 1 Tryz.underlying39 hi hz0 hz1 hz2 rfl (by decide) _ 0 [] rfl hlit ad l c (zs.map (Value.int .u8)) rfl (by simp [hll]) hnews h1 (by simp only [maxLen]; omega) (by omega) (by simp) ?_; intro v' w1 hown hgrow _)
    go_ret
    rw [List.nil_append, Nat.zero_add, ← hll] at hown
    refine ⟨v', rfl, hown, ?_⟩
    exact ((Below.refl w.heap.size w).alloc (Nat.le_refl _) _).grown hgrow (by simp) (fun k e => by cases e; exact Nat.le_refl _)

theorem sameB (A A' : Option Addr) (xs ys : List Int) (c c' l l' : Nat) (o : Bool) (hll : xs.length = l) (hll' : ys.length = l') (hl : l ≤ 2200) (hl' : l' ≤ 2200) (ho : (xs == ys) = o) (w : World) (h : Good A c xs w) (h' : Good A' c' ys w) :
    Calls Tryz.prog 25 #[.slice A l c, .slice A' l' c'] w fun e w' => e = .returned (.bool o) ∧ Below w.heap.size w w' := by
  subst hll hll' ho
  refine (sameBytes_any A A' xs ys c c' w.heap.size w h.1 h'.1 (by omega) (by omega)).mono ?_
  rintro e w' ⟨rfl, hd⟩
  exact ⟨rfl, hd.below _ (Nat.le_refl _)⟩
end Go.Proofs.YtdmkkfpbgpijjaaGreat
