/- Layer 1 for the stages above it: slices.Backward: what its iterator hands over, for every list of numbers and every loop body that keeps what lay before. Layer 1 for the stages above it: word.From: the word of bytes, for every list of bytes. A region that draws its order, whose last operations alone write, in a round of a range over a function, at the fence that asks nothing: one walk in the order of the text serves every order. Nothing of the program. -/
import Derived.Test.YtdmkkfpbgpijjaaGreatWae
import Derived.RangeFuncNested
import Derived.RangeFuncBound
import Derived.RangeFuncCalls
import Derived.RangeFuncLeaves
import Derived.RangeFuncBox
import Derived.Shelf.Abstract
import Derived.Shelf.RegionOpen
import Derived.OwnWalkIn
import Derived.TacticsInMore
import Derived.LoopNIn
import Derived.LoopIn
import Derived.OrdersIn
import Derived.StillTailTactics
import Derived.TacticsIn
namespace Go.Proofs.YtdmkkfpbgpijjaaGreat
open Go.RowKit Go.Shelf

attribute [local go_sem] Oper.semAt_some

/-- The places of a list of so many, from the last one down, k of them. -/
def downL (len k : Nat) : List Nat := (List.range k).map (fun j => len - 1 - j)
theorem downL_succ (len k : Nat) : downL len (k + 1) = downL len k ++ [len - 1 - k] := by simp [downL, List.range_succ]
theorem downL_length (len k : Nat) : (downL len k).length = k := by simp [downL]

/-- A place of a list of so many. -/
abbrev Pl (len : Nat) := { i : Nat // i < len }

/-- What lay below n₀ lies as it lay, and so does block Bs. -/
def KB (n₀ Bs : Nat) (A B : World) : Prop := Below n₀ A B ∧ B.heap[Bs]? = A.heap[Bs]?
theorem KB.refl (n₀ Bs : Nat) (A : World) : KB n₀ Bs A A := ⟨Below.refl _ _, rfl⟩
theorem KB.trans {n₀ Bs : Nat} {A B C : World} (h : KB n₀ Bs A B) (k : KB n₀ Bs B C) : KB n₀ Bs A C := ⟨h.1.trans k.1, k.2.trans h.2⟩
theorem KB.setCell {n₀ Bs : Nat} {A B : World} (h : KB n₀ Bs A B) {p : Addr} (hp : n₀ ≤ p.block) (hne : Bs ≠ p.block) (v : Value) : KB n₀ Bs A (B.setCell p v) :=
  ⟨h.1.setCell hp v, (Below.heap_setCell B p v Bs hne).trans h.2⟩
theorem KB.drew {n₀ Bs : Nat} {A B : World} (h : KB n₀ Bs A B) : KB n₀ Bs A B.drew := ⟨h.1.drew, h.2⟩
theorem KB.cell {n₀ Bs : Nat} {A B : World} (h : KB n₀ Bs A B) : B.cell? ⟨Bs, 0, none⟩ = A.cell? ⟨Bs, 0, none⟩ := World.cell?_of_block h.2
theorem kb_b {n₀ Bs : Nat} {w : World} (hn : n₀ ≤ w.heap.size) (hB : Bs < w.heap.size) (W : World) (l : Nat) (o o' : Obj) (hl : w.heap.size ≤ l) (h : W.heap[l]? = some o) (h1 : o.isCells = false) (h2 : o.isWalk = false) : KB n₀ Bs W (W.putObj l o') :=
  ⟨belowK_b hn W l o o' hl h h1 h2, World.putObj_heap_other (by omega)⟩

set_option maxRecDepth 100000 in
set_option maxHeartbeats 2000000 in
theorem backInts1_in (F : Fence) (n : Nat) (hf : F.fn 120) (hro : F.round = none) (hn : 1 ≤ n) (l Bs n₀ cap : Nat) (A : Option Addr) (zs : List Int) (hl : zs.length ≤ 17592186044416) (J Jx : List (Pl zs.length) → World → Prop)
    (hY : ∀ pre x W, J pre W → pre.length < zs.length → YieldAt F (n - 1) Tryz.prog l #[.int .i64 (x.1 : Int), .int .i64 (zs[x.1]?.getD 0)] W fun e W' =>
      (e = .returned (.bool true) ∧ J (pre ++ [x]) W' ∧ KB n₀ Bs W W') ∨ (e = .returned (.bool false) ∧ Jx (pre ++ [x]) W'))
    (W : World) (hBs : W.cell? ⟨Bs, 0, none⟩ = some (.slice A zs.length cap)) (hI : Ints .i64 n₀ W A zs) (h0 : J [] W) :
    CallsIn F n Tryz.prog 120 #[.func (.yield l) #[] #[], .pointer (some ⟨Bs, 0, none⟩)] W fun e W' => (∃ v, e = .returned v) ∧
      ((∃ ys, ys.map (·.1) = downL zs.length zs.length ∧ J ys W') ∨ (∃ pre, (∃ k, k ≤ zs.length ∧ pre.map (·.1) = downL zs.length k) ∧ Jx pre W')) := by
  refine callsIn_of_wp Tryz.func120 rfl hf ?_ hro
  simp only [Tryz.ntmps120, List.size_toArray, List.length_cons, List.length_nil, Nat.reduceAdd, Nat.reduceSub, Array.replicate_succ, Array.replicate_zero, List.push_toArray, List.append_toArray, List.nil_append, List.cons_append]
  gi_wp2
  gi_loopw [3] (fun i wr => ∃ (m : Nat) (pre : List (Pl zs.length)), m ≤ zs.length ∧ i = .int .i64 ((m : Int) - 1) ∧ pre.map (·.1) = downL zs.length (zs.length - m) ∧ J pre wr ∧ KB n₀ Bs W wr)
    (fun i _ => (intOf i + 1).toNat)
  case atStart => exact ⟨zs.length, [], Nat.le_refl _, rfl, by simp [downL], h0, KB.refl _ _ _⟩
  case round =>
    obtain ⟨m, pre, hm, hi, hp, hJs, hnx⟩ := hrel
    cases m with
    | zero =>
      rw [show ((0 : Nat) : Int) - 1 = -1 by omega] at hi
      subst hi
      have HP := Lib.hid hp
      clear hp
      gi_wp2
      go_end0
      exact ⟨⟨_, rfl⟩, .inl ⟨pre, HP.out, hJs⟩⟩
    | succ m =>
      rw [show ((m + 1 : Nat) : Int) - 1 = (m : Int) by omega] at hi
      subst hi
      obtain ⟨b, off, rfl, hb, hc⟩ := hI (by omega)
      have hcx : wr.cell? ⟨b, off + m, none⟩ = some (.int .i64 (zs[m]?.getD 0)) := (hnx.1.cell (p := ⟨b, off + m, none⟩) hb).trans (hc m (by omega))
      have hbx : wr.cell? ⟨Bs, 0, none⟩ = some (.slice (some ⟨b, off, none⟩) zs.length cap) := hnx.cell.trans hBs
      have hpl : pre.length = zs.length - (m + 1) := by
        have := congrArg List.length hp
        rwa [List.length_map, downL_length] at this
      obtain ⟨fn, tmps, assign, body, hy, hR⟩ := hY pre ⟨m, by omega⟩ wr hJs (by omega)
      have hp1 : (pre ++ [(⟨m, by omega⟩ : Pl zs.length)]).map (·.1) = downL zs.length (zs.length - m) := by
        rw [List.map_append, hp, show zs.length - m = (zs.length - (m + 1)) + 1 by omega, downL_succ]
        simp; omega
      have HP1 := Lib.hid hp1
      clear hp1 hp hpl hc
      dsimp only at hy
      generalize zs[m]?.getD 0 = z at hcx hy
      have hml : m < zs.length := by omega
      gi_wp2
      refine hR.mono ?_
      rintro e W3 (⟨rfl, hJ3, hk3⟩ | ⟨rfl, hJx3⟩)
      · gi_wp2
        go_roundw
        case rel => exact ⟨m, _, by omega, rfl, HP1.out, hJ3, hnx.trans hk3⟩
        case measure => simp [intOf]
      · gi_wp2
        refine bodyPost_ret (results_none rfl _ _ _) rfl ?_
        exact ⟨⟨_, rfl⟩, .inr ⟨_, ⟨zs.length - m, by omega, HP1.out⟩, hJx3⟩⟩

set_option maxHeartbeats 1000000 in
theorem backInts_in (F : Fence) (n : Nat) (hf : F.fn 112) (hro : F.round = none) (a : Option Addr) (len cap : Nat) (w : World) :
    CallsIn F n Tryz.prog 112 #[.slice a len cap] w fun e w' => e = .returned (.func (.func 120) #[] #[.pointer (some ⟨w.heap.size, 0, none⟩)]) ∧ w' = w.alloc (.cells #[.slice a len cap] 126) := by
  refine callsIn_of_wp Tryz.func112 rfl hf ?_ hro
  simp only [Tryz.ntmps112, List.size_toArray, List.length_cons, List.length_nil, Nat.reduceAdd, Nat.reduceSub, Array.replicate_succ, Array.replicate_zero, List.push_toArray, List.append_toArray, List.nil_append, List.cons_append]
  gi_wp2
  go_ret
  exact ⟨rfl, rfl⟩

theorem backInts_stops (F : Fence) (n : Nat) (hf : F.fn 120) (hro : F.round = none) (hn : 1 ≤ n) (Bs n₀ cap : Nat) (A : Option Addr) (zs : List Int) (hl : zs.length ≤ 17592186044416) (w : World) (hBs : Bs < w.heap.size) (hn₀ : n₀ ≤ w.heap.size)
    (hc : w.cell? ⟨Bs, 0, none⟩ = some (.slice A zs.length cap)) (hI : Ints .i64 n₀ w A zs) :
    SeqStopsK F n Tryz.prog 120 #[.pointer (some ⟨Bs, 0, none⟩)] (fun x : Pl zs.length => #[Value.int .i64 (x.1 : Int), Value.int .i64 (zs[x.1]?.getD 0)]) (KB n₀ Bs) (fun ys => ys.map (·.1) = downL zs.length zs.length)
      (fun pre => ∃ k, k ≤ zs.length ∧ pre.map (·.1) = downL zs.length k) zs.length w := fun l J Jx W hW _ _ hY h0 =>
  backInts1_in F n hf hro hn l Bs n₀ cap A zs hl J Jx hY W ((hW.cell (p := ⟨Bs, 0, none⟩) hBs).trans hc) (hI.below hW hn₀) h0
set_option maxRecDepth 100000 in
set_option maxHeartbeats 2000000 in
theorem backBytes1_in (F : Fence) (n : Nat) (hf : F.fn 116) (hro : F.round = none) (hn : 1 ≤ n) (l Bs n₀ cap : Nat) (A : Option Addr) (zs : List Int) (hl : zs.length ≤ 17592186044416) (J Jx : List (Pl zs.length) → World → Prop)
    (hY : ∀ pre x W, J pre W → pre.length < zs.length → YieldAt F (n - 1) Tryz.prog l #[.int .i64 (x.1 : Int), .int .u8 (zs[x.1]?.getD 0)] W fun e W' =>
      (e = .returned (.bool true) ∧ J (pre ++ [x]) W' ∧ KB n₀ Bs W W') ∨ (e = .returned (.bool false) ∧ Jx (pre ++ [x]) W'))
    (W : World) (hBs : W.cell? ⟨Bs, 0, none⟩ = some (.slice A zs.length cap)) (hI : Ints .u8 n₀ W A zs) (h0 : J [] W) :
    CallsIn F n Tryz.prog 116 #[.func (.yield l) #[] #[], .pointer (some ⟨Bs, 0, none⟩)] W fun e W' => (∃ v, e = .returned v) ∧
      ((∃ ys, ys.map (·.1) = downL zs.length zs.length ∧ J ys W') ∨ (∃ pre, (∃ k, k ≤ zs.length ∧ pre.map (·.1) = downL zs.length k) ∧ Jx pre W')) := by
  refine callsIn_of_wp Tryz.func116 rfl hf ?_ hro
  simp only [Tryz.ntmps116, List.size_toArray, List.length_cons, List.length_nil, Nat.reduceAdd, Nat.reduceSub, Array.replicate_succ, Array.replicate_zero, List.push_toArray, List.append_toArray, List.nil_append, List.cons_append]
  gi_wp2
  gi_loopw [3] (fun i wr => ∃ (m : Nat) (pre : List (Pl zs.length)), m ≤ zs.length ∧ i = .int .i64 ((m : Int) - 1) ∧ pre.map (·.1) = downL zs.length (zs.length - m) ∧ J pre wr ∧ KB n₀ Bs W wr)
    (fun i _ => (intOf i + 1).toNat)
  case atStart => exact ⟨zs.length, [], Nat.le_refl _, rfl, by simp [downL], h0, KB.refl _ _ _⟩
  case round =>
    obtain ⟨m, pre, hm, hi, hp, hJs, hnx⟩ := hrel
    cases m with
    | zero =>
      rw [show ((0 : Nat) : Int) - 1 = -1 by omega] at hi
      subst hi
      have HP := Lib.hid hp
      clear hp
      gi_wp2
      go_end0
      exact ⟨⟨_, rfl⟩, .inl ⟨pre, HP.out, hJs⟩⟩
    | succ m =>
      rw [show ((m + 1 : Nat) : Int) - 1 = (m : Int) by omega] at hi
      subst hi
      obtain ⟨b, off, rfl, hb, hc⟩ := hI (by omega)
      have hcx : wr.cell? ⟨b, off + m, none⟩ = some (.int .u8 (zs[m]?.getD 0)) := (hnx.1.cell (p := ⟨b, off + m, none⟩) hb).trans (hc m (by omega))
      have hbx : wr.cell? ⟨Bs, 0, none⟩ = some (.slice (some ⟨b, off, none⟩) zs.length cap) := hnx.cell.trans hBs
      have hpl : pre.length = zs.length - (m + 1) := by
        have := congrArg List.length hp
        rwa [List.length_map, downL_length] at this
      obtain ⟨fn, tmps, assign, body, hy, hR⟩ := hY pre ⟨m, by omega⟩ wr hJs (by omega)
      have hp1 : (pre ++ [(⟨m, by omega⟩ : Pl zs.length)]).map (·.1) = downL zs.length (zs.length - m) := by
        rw [List.map_append, hp, show zs.length - m = (zs.length - (m + 1)) + 1 by omega, downL_succ]
        simp; omega
      have HP1 := Lib.hid hp1
      clear hp1 hp hpl hc
      dsimp only at hy
      generalize zs[m]?.getD 0 = z at hcx hy
      have hml : m < zs.length := by omega
      gi_wp2
      refine hR.mono ?_
      rintro e W3 (⟨rfl, hJ3, hk3⟩ | ⟨rfl, hJx3⟩)
      · gi_wp2
        go_roundw
        case rel => exact ⟨m, _, by omega, rfl, HP1.out, hJ3, hnx.trans hk3⟩
        case measure => simp [intOf]
      · gi_wp2
        refine bodyPost_ret (results_none rfl _ _ _) rfl ?_
        exact ⟨⟨_, rfl⟩, .inr ⟨_, ⟨zs.length - m, by omega, HP1.out⟩, hJx3⟩⟩

set_option maxHeartbeats 1000000 in
theorem backBytes_in (F : Fence) (n : Nat) (hf : F.fn 106) (hro : F.round = none) (a : Option Addr) (len cap : Nat) (w : World) :
    CallsIn F n Tryz.prog 106 #[.slice a len cap] w fun e w' => e = .returned (.func (.func 116) #[] #[.pointer (some ⟨w.heap.size, 0, none⟩)]) ∧ w' = w.alloc (.cells #[.slice a len cap] 39) := by
  refine callsIn_of_wp Tryz.func106 rfl hf ?_ hro
  simp only [Tryz.ntmps106, List.size_toArray, List.length_cons, List.length_nil, Nat.reduceAdd, Nat.reduceSub, Array.replicate_succ, Array.replicate_zero, List.push_toArray, List.append_toArray, List.nil_append, List.cons_append]
  gi_wp2
  go_ret
  exact ⟨rfl, rfl⟩

theorem backBytes_stops (F : Fence) (n : Nat) (hf : F.fn 116) (hro : F.round = none) (hn : 1 ≤ n) (Bs n₀ cap : Nat) (A : Option Addr) (zs : List Int) (hl : zs.length ≤ 17592186044416) (w : World) (hBs : Bs < w.heap.size) (hn₀ : n₀ ≤ w.heap.size)
    (hc : w.cell? ⟨Bs, 0, none⟩ = some (.slice A zs.length cap)) (hI : Ints .u8 n₀ w A zs) :
    SeqStopsK F n Tryz.prog 116 #[.pointer (some ⟨Bs, 0, none⟩)] (fun x : Pl zs.length => #[Value.int .i64 (x.1 : Int), Value.int .u8 (zs[x.1]?.getD 0)]) (KB n₀ Bs) (fun ys => ys.map (·.1) = downL zs.length zs.length)
      (fun pre => ∃ k, k ≤ zs.length ∧ pre.map (·.1) = downL zs.length k) zs.length w := fun l J Jx W hW _ _ hY h0 =>
  backBytes1_in F n hf hro hn l Bs n₀ cap A zs hl J Jx hY W ((hW.cell (p := ⟨Bs, 0, none⟩) hBs).trans hc) (hI.below hW hn₀) h0

end Go.Proofs.YtdmkkfpbgpijjaaGreat
namespace Go.Proofs.YtdmkkfpbgpijjaaGreat
open Go.RowKit Go.Shelf

attribute [local go_sem] Oper.semAt_some

def fstep (u z : Nat) : Nat := u * 256 % 18446744073709551616 + z
def fF (zs : List Int) (L : List Nat) : Nat := L.foldl (fun u i => fstep u (zs[i]?.getD 0).toNat) 0
def fromN : List Int → Nat
  | [] => 0
  | z :: zs => z.toNat + 256 * fromN zs
theorem fromN_cons (z : Int) (zs : List Int) : fromN (z :: zs) = z.toNat + 256 * fromN zs := rfl
theorem isBytes_at (zs : List Int) (h : isBytes zs) (i : Nat) : 0 ≤ zs[i]?.getD 0 ∧ zs[i]?.getD 0 < 256 := by
  by_cases hi : i < zs.length
  · have := h zs[i] (by simp)
    simp [hi]; omega
  · simp [hi]
theorem fromN_lt (zs : List Int) (h : isBytes zs) : fromN zs < 256 ^ zs.length := by
  induction zs with
  | nil => simp [fromN]
  | cons z zs ih =>
    have h1 := ih (fun y hy => h y (by simp [hy]))
    have h2 := h z (by simp)
    rw [List.length_cons, Nat.pow_succ]
    rw [fromN_cons]
    omega
theorem fF_down (zs : List Int) (h : isBytes zs) (hl : zs.length ≤ 8) : ∀ k, k ≤ zs.length → fF zs (downL zs.length k) = fromN (zs.drop (zs.length - k)) := by
  intro k
  induction k with
  | zero => intro _; simp [downL, fF, fromN]
  | succ k ih =>
    intro hk
    have e1 : fF zs (downL zs.length (k + 1)) = fstep (fF zs (downL zs.length k)) (zs[zs.length - 1 - k]?.getD 0).toNat := by
      rw [downL_succ]; unfold fF; rw [List.foldl_append]; rfl
    have hi : zs.length - (k + 1) < zs.length := by omega
    have e2 : zs.drop (zs.length - (k + 1)) = zs[zs.length - (k + 1)] :: zs.drop (zs.length - k) := by
      rw [List.drop_eq_getElem_cons hi, show zs.length - (k + 1) + 1 = zs.length - k by omega]
    have hlt := fromN_lt (zs.drop (zs.length - k)) (fun y hy => h y (List.mem_of_mem_drop hy))
    rw [List.length_drop, show zs.length - (zs.length - k) = k by omega] at hlt
    have hp : 256 ^ k ≤ 256 ^ 7 := Nat.pow_le_pow_right (by decide) (by omega)
    rw [e1, ih (by omega), e2, fromN_cons]
    unfold fstep
    rw [show zs.length - 1 - k = zs.length - (k + 1) by omega]
    simp only [List.getElem?_eq_getElem hi, Option.getD_some]
    rw [Nat.mod_eq_of_lt (by omega)]
    omega
theorem fF_snoc (zs : List Int) (pre : List (Pl zs.length)) (x : Pl zs.length) : fF zs ((pre ++ [x]).map (·.1)) = fstep (fF zs (pre.map (·.1))) (zs[x.1]?.getD 0).toNat := by
  simp [fF]
theorem fstep_lt (u z : Nat) (hz : z < 256) : fstep u z < 18446744073709551616 := by unfold fstep; omega
theorem fF_lt (zs : List Int) (h : isBytes zs) (L : List Nat) : fF zs L < 18446744073709551616 := by
  rcases List.eq_nil_or_concat L with rfl | ⟨L', x, rfl⟩
  · simp [fF]
  · unfold fF
    rw [List.concat_eq_append, List.foldl_append]
    have := isBytes_at zs h x
    exact fstep_lt _ _ (by omega)
theorem fstep_walk (u : Nat) (z : Int) (h1 : 0 ≤ z) (h2 : z < 256) : bits .or .u64 (IntKind.u64.wrap ((u : Int) * 256)) z = ((fstep u z.toNat : Nat) : Int) := by
  have e : IntKind.u64.wrap ((u : Int) * 256) = ((u * 256 % 18446744073709551616 : Nat) : Int) := by rw [IntKind.wrap_u64]; omega
  have ez : z = (z.toNat : Int) := by omega
  have em : u * 256 % 18446744073709551616 = (u * 256 % 18446744073709551616 / 256) * 2 ^ 8 := by omega
  have hz : z.toNat < 2 ^ 8 := by omega
  rw [e]
  conv => lhs; rw [ez]
  rw [bits_or_u64_nat _ _ (by omega) (by omega)]
  unfold fstep
  rw [em, or_disjoint _ _ 8 hz]

set_option maxRecDepth 100000 in
set_option maxHeartbeats 2000000 in
theorem from_in (F : Fence) (n : Nat) (h0 : F.fn 88) (h1 : F.fn 106) (h2 : F.fn 116) (hro : F.round = none) (hn : 3 ≤ n) (A : Option Addr) (cap : Nat) (zs : List Int) (hz : isBytes zs) (hl : zs.length ≤ 8) (w : World) (hI : Ints .u8 w.heap.size w A zs) :
    CallsIn F n Tryz.prog 88 #[.slice A zs.length cap] w fun e W' => e = .returned (.tuple #[.int .u64 (fromN zs), .bool true]) ∧ Below w.heap.size w W' := by
  have hn1 : 1 ≤ n := by omega
  have hd : decide ((8 : Int) < (zs.length : Int)) = false := by simp; omega
  refine callsIn_of_wp_marks Tryz.func88 rfl h0 ?_ hro
  simp only [Tryz.ntmps88, List.size_toArray, List.length_cons, List.length_nil, Nat.reduceAdd, Nat.reduceSub, Array.replicate_succ, Array.replicate_zero, List.push_toArray, List.append_toArray, List.nil_append, List.cons_append]
  gi_wp2_with (gi_at_call 106; refine (backBytes_in F (n - 1) h1 hro _ _ _ _).mono ?_; rintro e w' ⟨rfl, rfl⟩)
  have bS := Boxed.new w 129 (.int .u64 0)
  have bN := Boxed.new (w.alloc (.cells #[.int .u64 0] 129)) 39 (.slice A zs.length cap)
  rw [World.size_alloc] at bN
  have hB0 : Below w.heap.size w ((w.alloc (.cells #[.int .u64 0] 129)).alloc (.cells #[.slice A zs.length cap] 39)) := ((Below.refl _ w).alloc (Nat.le_refl _) _).alloc (by simp) _
  refine wpIn_rangeFunc_ownG hro hn1 (gf := 116) (lb := #[.pointer (some ⟨w.heap.size + 1, 0, none⟩)]) rfl h2 (enters_of Tryz.func116 (by kernel_rfl) rfl)
    (backBytes_stops F (n - 1) h2 hro (by omega) (w.heap.size + 1) w.heap.size cap A zs (by omega) _ (by simp) (by simp; omega) bN.cell (hI.below hB0 (Nat.le_refl _))) KB.trans (kb_b (by simp; omega) (by simp)) (Below.refl _ _) (fun _ => rfl)
    (fun pre W => (W.cell? ⟨w.heap.size, 0, none⟩ = some (.int .u64 ((fF zs (pre.map (·.1)) : Nat) : Int)) ∧ W.frozen? ⟨w.heap.size, 0, none⟩ = false) ∧ Below w.heap.size w W)
    (fun _ _ _ => False)
    (OwnFrom.and (Own.from (fun s A B row hs hg hr => ⟨cell_kept hs.1 hg hr, (frozen_kept hs.1 hg hr).trans hs.2⟩) _) (ownFrom_below (Nat.le_refl _) (by simp; omega)))
    (fun _ _ _ _ _ hs _ _ => hs)
    ⟨⟨(bS.alloc _).cell, (bS.alloc _).frozen⟩, hB0⟩
    (fun x => { tmps := #[Value.slice A zs.length cap, undef, Value.int IntKind.u64 0, Value.bool false, .pointer (some ⟨w.heap.size, 0, none⟩), undef, .int .u8 (zs[x.1]?.getD 0), .slice A zs.length cap, .int .i64 zs.length, .bool false, .slice A zs.length cap, .func (.func 116) #[] #[.pointer (some ⟨w.heap.size + 1, 0, none⟩)], .int .i64 (x.1 : Int), .int .u8 (zs[x.1]?.getD 0), undef, undef, undef, undef, undef, undef], defers := [] }) ?assign ?body ?done ?stop
  case assign =>
    intro l x W K hK
    generalize zs[x.1]?.getD 0 = z at *
    gi_wp2
    exact hK
  case body =>
    rintro l pre x W ⟨⟨hc, hf⟩, hB⟩ _
    obtain ⟨hz1, hz2⟩ := isBytes_at zs hz x.1
    have hw := fstep_walk (fF zs (pre.map (·.1))) (zs[x.1]?.getD 0) hz1 hz2
    have hu := fF_lt zs hz (pre.map (·.1))
    have hsn := Lib.hid (fF_snoc zs pre x)
    generalize zs[x.1]?.getD 0 = z at *
    generalize fF zs (pre.map (·.1)) = u at *
    gi_wp2
    exact ⟨(KeepsOthers.setCell _ _ _).from _, (KB.refl _ _ W).setCell (p := ⟨w.heap.size, 0, none⟩) (Nat.le_refl _) (by simp) _, ⟨by rw [hsn.out]; exact World.cell?_setCell_same' _ _ _ (by rw [hc]; rfl), by rw [World.frozen?_setCell]; exact hf⟩, hB.setCell (p := ⟨w.heap.size, 0, none⟩) (Nat.le_refl _) _⟩
  case done =>
    rintro D ys W hD hys ⟨⟨hc, _⟩, hB⟩ hK
    rw [hys, fF_down zs hz hl zs.length (Nat.le_refl _), Nat.sub_self, List.drop_zero] at hc
    gi_wp2
    refine ⟨by simp, .inl ⟨_, _, rfl, run_takeDeferred hK, ?_⟩⟩
    exact ⟨_, results_tmp2 rfl _ _ _, rfl, hB.trans (belowK_b (w := w) (Nat.le_refl _) W D _ _ (by simp at hD; omega) hK rfl rfl)⟩
  case stop =>
    rintro D c pre W _ _ h _
    exact h.elim
end Go.Proofs.YtdmkkfpbgpijjaaGreat
namespace Go.Proofs.YtdmkkfpbgpijjaaGreat

theorem upon_round {P : Program} {l n : Nat} {o : Oper} {a : Act} {K : Act → World → Prop} {Q : Exit → Act → World → Prop} {r : Result Next} (h : o.upon P a K Q r) : o.uponIn (Fence.wide.inRound l) n P a K Q r := by
  unfold Oper.upon at h
  unfold Oper.uponIn
  split at h
  · exact h
  · exact h
  · exact h
  · exact ⟨(fun hh => by cases hh), CallsIn.inRound l (callsIn_wide.2 h)⟩
  · refine ⟨(fun hh => by cases hh), fun c cs _ => ?_⟩
    obtain ⟨v, w', r, s⟩ := h c cs
    exact ⟨v, w', r, stepsIn_wide.2 s⟩
  · exact h
  · exact h.elim

theorem wpIn_of_wp {P : Program} {l n : Nat} {o : Oper} {a : Act} {w : World} {K : Act → World → Prop} {Q : Exit → Act → World → Prop} (hnd : ∀ c, o.op ≠ .defer c) (h : o.wp P a w K Q) : o.wpIn (Fence.wide.inRound l) n P a w K Q := by
  refine ⟨fun _ _ => trivial, ?_⟩
  rw [show (Fence.wide.inRound l).round = some l from rfl, Oper.semAt_some l _ _ hnd]
  exact upon_round h

/-- No operation of a region is a 'defer' statement. -/
def NoDefer (ops : Array Oper) : Prop := ∀ (i : Nat) (o : Oper), ops[i]? = some o → ∀ c, o.op ≠ .defer c

def deferB (o : Oper) : Bool := match o.op with
  | .defer _ => true
  | _ => false
theorem NoDefer.of {ops : List Oper} (h : ops.all (fun o => !deferB o) = true) : NoDefer ops.toArray := by
  intro i o ho c hc
  have hm : o ∈ ops := by
    rw [List.getElem?_toArray] at ho
    exact List.mem_of_getElem? ho
  have := List.all_eq_true.1 h o hm
  simp [deferB, hc] at this

theorem wpOpIn_of_stOp {P : Program} {l n : Nat} {ops : Array Oper} {Q : Exit → Act → World → Prop} (hnd : NoDefer ops) {i : Nat} {K : Act → Prop} {K' : Act → World → Prop} {w : World} (hK : ∀ a, K a → K' a w) {a : Act} (h : stOp P ops w i K a) : wpOpIn (Fence.wide.inRound l) n P ops Q i K' a w := by
  unfold stOp at h
  unfold wpOpIn
  cases ho : ops[i]? with
  | none => rw [ho] at h; exact hK _ h
  | some o =>
    rw [ho] at h
    simp only at h ⊢
    split
    · rename_i hw
      rw [if_pos hw] at h
      exact wpIn_of_wp (hnd i o ho) (Oper.wp_of_still hK h)
    · rename_i hw
      rw [if_neg hw] at h
      exact ⟨fun _ _ => trivial, hK _ h⟩

theorem wpAnyIn_of_head {P : Program} {md : Region.Mode} {l m : Nat} {ops : Array Oper} (hnd : NoDefer ops) {n g : Nat} {L : Array Bool → Act → Prop} {Q' : Exit → Act → World → Prop} {w : World} (hL : ∀ listed a, L listed a → wpAnyIn (Fence.wide.inRound l) m P md ops Q' g listed a w) :
    ∀ (f : Nat) (listed : Array Bool) (a : Act), wpAnyL P md ops w n L f listed a → wpAnyIn (Fence.wide.inRound l) m P md ops Q' (f + g) listed a w
  | 0, listed, a, h => by rw [Nat.zero_add]; exact hL _ _ h
  | f + 1, listed, a, h => by
    rw [show f + 1 + g = (f + g) + 1 by omega]
    exact ⟨fun h0 => absurd h0 h.1, fun i hi => wpOpIn_of_stOp hnd (fun a' h' => wpAnyIn_of_head hnd hL f _ a' h') (h.2 i hi).2⟩

theorem wpAnyIn_of_seq {P : Program} {md : Region.Mode} {F : Fence} {m : Nat} {ops : Array Oper} {Q' : Exit → Act → World → Prop} : ∀ (l : List Oper) (k : Nat) (listed : Array Bool) (a : Act) (w : World), (∀ j : Nat, l[j]? = ops[k + j]?) →
    Region.seqB md ops l.length k listed = true → wpListIn F m P ops Q' l a w → wpAnyIn F m P md ops Q' l.length listed a w
  | [], _, _, _, _, _, hB, h => ⟨by simpa [Region.seqB] using hB, h⟩
  | o :: l, k, listed, a, w, hl, hB, h => by
    have h0 : ops[k]? = some o := by simpa using (hl 0).symm
    simp only [List.length_cons, Region.seqB, Bool.and_eq_true, decide_eq_true_eq] at hB
    refine ⟨fun h1 => (by rw [hB.1] at h1; cases h1), fun i hi => ?_⟩
    rw [hB.1] at hi
    have hik : i = k := by simpa using hi
    subst hik
    have hw : wpOpIn F m P ops Q' i (wpListIn F m P ops Q' l) a w := by unfold wpOpIn; simp only [h0]; exact h
    exact wpOpIn_mono (fun a' w' h' => wpAnyIn_of_seq l (i + 1) _ a' w' (fun j => by have := hl (j + 1); simpa [Nat.add_assoc, Nat.add_comm 1 j] using this) hB.2 h') hw

theorem region_tail_round {P : Program} {l n id : Nat} {Q : Exit → Act → World → Prop} {a : Act} {w : World} {ops : List Oper} (N : Nat) (hm : P.follows .mixedOrders = true) (hB : Region.lexTailB .any ops.toArray N = true)
    (hnd : NoDefer ops.toArray)
    (h : wpStill P ops.toArray { w with drawn := w.drawn + 1 } (fun a' => wpListIn (Fence.wide.inRound l) n P ops.toArray Q (ops.drop N) a' { w with drawn := w.drawn + 1 }) (ops.take N) a) : (Code.region id ops.toArray true).wpIn (Fence.wide.inRound l) n P Q a w := by
  simp only [Region.lexTailB, Bool.and_eq_true, decide_eq_true_eq] at hB
  obtain ⟨⟨⟨⟨hsel, hn⟩, hs⟩, hc⟩, hlex⟩ := hB
  have hn' : N < ops.length := by simpa using hn
  have htl : (ops.take N).length = N := by simp; omega
  have hdl : (ops.drop N).length = ops.toArray.size - N := by simp
  have inv0 : HeadInv .any ops.toArray N (Array.replicate ops.toArray.size false) :=
    ⟨by simp, fun j oj _ hl => (by rw [getD_replicate_false] at hl; cases hl), fun t _ ht => getD_in (by simpa using ht) (getD_replicate_false _ _)⟩
  have H := wpAnyL_lex (md := .any) (g := ops.toArray.size - N) hsel hs hc hn (ops.take N) 0 _ a (fun j hj => by
    have hj' : j < N := by rw [htl] at hj; exact hj
    simp [hj']) (by simpa using htl) inv0 (by rw [htl]; exact hlex) h
  refine wpIn_region_any hm ?_
  have := wpAnyIn_of_head (m := n) (l := l) hnd (Q' := Q) (g := ops.toArray.size - N) (fun listed a' hL => by
    have := wpAnyIn_of_seq (md := .any) (F := Fence.wide.inRound l) (m := n) (Q' := Q) (ops.drop N) N listed a' { w with drawn := w.drawn + 1 } (fun j => by simp [List.getElem?_drop]) (by rw [hdl]; exact hL.1) hL.2
    rwa [hdl] at this) _ _ _ H
  rw [htl, show N + (ops.toArray.size - N) = ops.toArray.size by omega] at this
  exact this
end Go.Proofs.YtdmkkfpbgpijjaaGreat
