/- Layer 1 for the stages above it: slices.Backward: what its iterator hands over, for every list of numbers and every loop body that keeps what lay before. -/
import Derived.Test.YtcodphddkkjocaaGreatDoorVc
import Derived.RangeFuncNested
import Derived.RangeFuncBound
import Derived.RangeFuncCalls
import Derived.RangeFuncLeaves
import Derived.RangeFuncBox
import Derived.Shelf.Abstract
import Derived.Shelf.RegionOpen
import Derived.OwnWalkIn
import Derived.TacticsInMore
import Derived.LoopNIn
import Derived.LoopIn
namespace Go.Proofs.YtcodphddkkjocaaGreatDoor
open Go.RowKit Go.Shelf

attribute [local go_sem] Oper.semAt_some

/-- The places of a list of so many, from the last one down, k of them. -/
def downL (len k : Nat) : List Nat := (List.range k).map (fun j => len - 1 - j)
theorem downL_succ (len k : Nat) : downL len (k + 1) = downL len k ++ [len - 1 - k] := by simp [downL, List.range_succ]
theorem downL_length (len k : Nat) : (downL len k).length = k := by simp [downL]

/-- A place of a list of so many. -/
abbrev Pl (len : Nat) := { i : Nat // i < len }

/-- What lay below n₀ lies as it lay, and so does block Bs. -/
def KB (n₀ Bs : Nat) (A B : World) : Prop := Below n₀ A B ∧ B.heap[Bs]? = A.heap[Bs]?
theorem KB.refl (n₀ Bs : Nat) (A : World) : KB n₀ Bs A A := ⟨Below.refl _ _, rfl⟩
theorem KB.trans {n₀ Bs : Nat} {A B C : World} (h : KB n₀ Bs A B) (k : KB n₀ Bs B C) : KB n₀ Bs A C := ⟨h.1.trans k.1, k.2.trans h.2⟩
theorem KB.setCell {n₀ Bs : Nat} {A B : World} (h : KB n₀ Bs A B) {p : Addr} (hp : n₀ ≤ p.block) (hne : Bs ≠ p.block) (v : Value) : KB n₀ Bs A (B.setCell p v) :=
  ⟨h.1.setCell hp v, (Below.heap_setCell B p v Bs hne).trans h.2⟩
theorem KB.drew {n₀ Bs : Nat} {A B : World} (h : KB n₀ Bs A B) : KB n₀ Bs A B.drew := ⟨h.1.drew, h.2⟩
theorem KB.cell {n₀ Bs : Nat} {A B : World} (h : KB n₀ Bs A B) : B.cell? ⟨Bs, 0, none⟩ = A.cell? ⟨Bs, 0, none⟩ := World.cell?_of_block h.2
theorem kb_b {n₀ Bs : Nat} {w : World} (hn : n₀ ≤ w.heap.size) (hB : Bs < w.heap.size) (W : World) (l : Nat) (o o' : Obj) (hl : w.heap.size ≤ l) (h : W.heap[l]? = some o) (h1 : o.isCells = false) (h2 : o.isWalk = false) : KB n₀ Bs W (W.putObj l o') :=
  ⟨belowK_b hn W l o o' hl h h1 h2, World.putObj_heap_other (by omega)⟩

set_option maxRecDepth 100000 in
set_option maxHeartbeats 2000000 in
theorem backBytes1_in (F : Fence) (n : Nat) (hf : F.fn 57) (hro : F.round = none) (hn : 1 ≤ n) (l Bs n₀ cap : Nat) (A : Option Addr) (zs : List Int) (hl : zs.length ≤ 17592186044416) (J Jx : List (Pl zs.length) → World → Prop)
    (hY : ∀ pre x W, J pre W → pre.length < zs.length → YieldAt F (n - 1) Tryz.prog l #[.int .i64 (x.1 : Int), .int .u8 (zs[x.1]?.getD 0)] W fun e W' =>
      (e = .returned (.bool true) ∧ J (pre ++ [x]) W' ∧ KB n₀ Bs W W') ∨ (e = .returned (.bool false) ∧ Jx (pre ++ [x]) W'))
    (W : World) (hBs : W.cell? ⟨Bs, 0, none⟩ = some (.slice A zs.length cap)) (hI : Ints .u8 n₀ W A zs) (h0 : J [] W) :
    CallsIn F n Tryz.prog 57 #[.func (.yield l) #[] #[], .pointer (some ⟨Bs, 0, none⟩)] W fun e W' => (∃ v, e = .returned v) ∧
      ((∃ ys, ys.map (·.1) = downL zs.length zs.length ∧ J ys W') ∨ (∃ pre, (∃ k, k ≤ zs.length ∧ pre.map (·.1) = downL zs.length k) ∧ Jx pre W')) := by
  refine callsIn_of_wp Tryz.func57 rfl hf ?_ hro
  simp only [Tryz.ntmps57, List.size_toArray, List.length_cons, List.length_nil, Nat.reduceAdd, Nat.reduceSub, Array.replicate_succ, Array.replicate_zero, List.push_toArray, List.append_toArray, List.nil_append, List.cons_append]
  gi_wp2
  gi_loopw [3] (fun i wr => ∃ (m : Nat) (pre : List (Pl zs.length)), m ≤ zs.length ∧ i = .int .i64 ((m : Int) - 1) ∧ pre.map (·.1) = downL zs.length (zs.length - m) ∧ J pre wr ∧ KB n₀ Bs W wr)
    (fun i _ => (intOf i + 1).toNat)
  case atStart => exact ⟨zs.length, [], Nat.le_refl _, rfl, by simp [downL], h0, KB.refl _ _ _⟩
  case round =>
    obtain ⟨m, pre, hm, hi, hp, hJs, hnx⟩ := hrel
    cases m with
    | zero =>
      rw [show ((0 : Nat) : Int) - 1 = -1 by omega] at hi
      subst hi
      have HP := Lib.hid hp
      clear hp
      gi_wp2
      go_end0
      exact ⟨⟨_, rfl⟩, .inl ⟨pre, HP.out, hJs⟩⟩
    | succ m =>
      rw [show ((m + 1 : Nat) : Int) - 1 = (m : Int) by omega] at hi
      subst hi
      obtain ⟨b, off, rfl, hb, hc⟩ := hI (by omega)
      have hcx : wr.cell? ⟨b, off + m, none⟩ = some (.int .u8 (zs[m]?.getD 0)) := (hnx.1.cell (p := ⟨b, off + m, none⟩) hb).trans (hc m (by omega))
      have hbx : wr.cell? ⟨Bs, 0, none⟩ = some (.slice (some ⟨b, off, none⟩) zs.length cap) := hnx.cell.trans hBs
      have hpl : pre.length = zs.length - (m + 1) := by
        have := congrArg List.length hp
        rwa [List.length_map, downL_length] at this
      obtain ⟨fn, tmps, assign, body, hy, hR⟩ := hY pre ⟨m, by omega⟩ wr hJs (by omega)
      have hp1 : (pre ++ [(⟨m, by omega⟩ : Pl zs.length)]).map (·.1) = downL zs.length (zs.length - m) := by
        rw [List.map_append, hp, show zs.length - m = (zs.length - (m + 1)) + 1 by omega, downL_succ]
        simp; omega
      have HP1 := Lib.hid hp1
      clear hp1 hp hpl hc
      dsimp only at hy
      generalize zs[m]?.getD 0 = z at hcx hy
      have hml : m < zs.length := by omega
      gi_wp2
      refine hR.mono ?_
      rintro e W3 (⟨rfl, hJ3, hk3⟩ | ⟨rfl, hJx3⟩)
      · gi_wp2
        go_roundw
        case rel => exact ⟨m, _, by omega, rfl, HP1.out, hJ3, hnx.trans hk3⟩
        case measure => simp [intOf]
      · gi_wp2
        refine bodyPost_ret (results_none rfl _ _ _) rfl ?_
        exact ⟨⟨_, rfl⟩, .inr ⟨_, ⟨zs.length - m, by omega, HP1.out⟩, hJx3⟩⟩

set_option maxHeartbeats 1000000 in
theorem backBytes_in (F : Fence) (n : Nat) (hf : F.fn 43) (hro : F.round = none) (a : Option Addr) (len cap : Nat) (w : World) :
    CallsIn F n Tryz.prog 43 #[.slice a len cap] w fun e w' => e = .returned (.func (.func 57) #[] #[.pointer (some ⟨w.heap.size, 0, none⟩)]) ∧ w' = w.alloc (.cells #[.slice a len cap] 25) := by
  refine callsIn_of_wp Tryz.func43 rfl hf ?_ hro
  simp only [Tryz.ntmps43, List.size_toArray, List.length_cons, List.length_nil, Nat.reduceAdd, Nat.reduceSub, Array.replicate_succ, Array.replicate_zero, List.push_toArray, List.append_toArray, List.nil_append, List.cons_append]
  gi_wp2
  go_ret
  exact ⟨rfl, rfl⟩

theorem backBytes_stops (F : Fence) (n : Nat) (hf : F.fn 57) (hro : F.round = none) (hn : 1 ≤ n) (Bs n₀ cap : Nat) (A : Option Addr) (zs : List Int) (hl : zs.length ≤ 17592186044416) (w : World) (hBs : Bs < w.heap.size) (hn₀ : n₀ ≤ w.heap.size)
    (hc : w.cell? ⟨Bs, 0, none⟩ = some (.slice A zs.length cap)) (hI : Ints .u8 n₀ w A zs) :
    SeqStopsK F n Tryz.prog 57 #[.pointer (some ⟨Bs, 0, none⟩)] (fun x : Pl zs.length => #[Value.int .i64 (x.1 : Int), Value.int .u8 (zs[x.1]?.getD 0)]) (KB n₀ Bs) (fun ys => ys.map (·.1) = downL zs.length zs.length)
      (fun pre => ∃ k, k ≤ zs.length ∧ pre.map (·.1) = downL zs.length k) zs.length w := fun l J Jx W hW _ _ hY h0 =>
  backBytes1_in F n hf hro hn l Bs n₀ cap A zs hl J Jx hY W ((hW.cell (p := ⟨Bs, 0, none⟩) hBs).trans hc) (hI.below hW hn₀) h0

end Go.Proofs.YtcodphddkkjocaaGreatDoor
