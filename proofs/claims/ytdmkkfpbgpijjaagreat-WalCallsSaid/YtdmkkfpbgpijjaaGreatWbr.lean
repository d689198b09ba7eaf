/- slices.Chunk over bytes, sixteen by sixteen: what its iterator hands over. -/
import Derived.Test.YtdmkkfpbgpijjaaGreatWaf
import Derived.Test.YtdmkkfpbgpijjaaGreatWbq
namespace Go.Proofs.YtdmkkfpbgpijjaaGreat
open Go.RowKit Go.Shelf

attribute [local go_sem] Oper.semAt_some
set_option linter.unusedVariables false

/-- Blocks Bs and Bn lie as they lay. -/
structure KP (Bs Bn : Nat) (A B : World) : Prop where
  s : B.heap[Bs]? = A.heap[Bs]?
  n : B.heap[Bn]? = A.heap[Bn]?
theorem KP.refl (Bs Bn : Nat) (A : World) : KP Bs Bn A A := ⟨rfl, rfl⟩
theorem KP.trans {Bs Bn : Nat} {A B C : World} (h : KP Bs Bn A B) (k : KP Bs Bn B C) : KP Bs Bn A C := ⟨k.s.trans h.s, k.n.trans h.n⟩
theorem KP.drew {Bs Bn : Nat} {A B : World} (h : KP Bs Bn A B) : KP Bs Bn A B.drew := ⟨h.s, h.n⟩
theorem kp_b {Bs Bn : Nat} {w : World} (hs : Bs < w.heap.size) (hn : Bn < w.heap.size) (W : World) (l : Nat) (o o' : Obj) (hl : w.heap.size ≤ l) (h : W.heap[l]? = some o) (h1 : o.isCells = false) (h2 : o.isWalk = false) : KP Bs Bn W (W.putObj l o') :=
  ⟨World.putObj_heap_other (by omega), World.putObj_heap_other (by omega)⟩
/-- The chunk at place x. -/
def chunkV (A : Option Addr) (len x : Nat) : Value := .slice (A.map fun a => ⟨a.block, a.off + 16 * x, none⟩) (min 16 (len - 16 * x)) (min 16 (len - 16 * x))
theorem grown_drew (W : World) : W.grownBy W.drew none := ⟨rfl, rfl, rfl, Nat.le_refl _, fun _ _ _ => rfl⟩
set_option maxRecDepth 100000 in
set_option maxHeartbeats 2000000 in
theorem chunk1_in (F : Fence) (n : Nat) (hf : F.fn 75) (hro : F.round = none) (hn : 1 ≤ n) (l Bs Bn cap len m : Nat) (A : Option Addr) (hlen : len ≤ 10000) (hcap : len ≤ cap) (hm : (len + 15) / 16 = m) (hA : 0 < len → ∃ b off, A = some ⟨b, off, none⟩) (J Jx : List (Pl m) → World → Prop) (W : World) (hJ : AbidesFrom W.heap.size J)
    (hY : ∀ pre x W, J pre W → pre.length < m → YieldAt F (n - 1) Tryz.prog l #[chunkV A len x.1] W fun e W' => (e = .returned (.bool true) ∧ J (pre ++ [x]) W' ∧ KP Bs Bn W W') ∨ (e = .returned (.bool false) ∧ Jx (pre ++ [x]) W'))
    (hBs : W.cell? ⟨Bs, 0, none⟩ = some (.slice A len cap)) (hBn : W.cell? ⟨Bn, 0, none⟩ = some (.int .i64 16)) (h0 : J [] W) :
    CallsIn F n Tryz.prog 75 #[.func (.yield l) #[] #[], .pointer (some ⟨Bs, 0, none⟩), .pointer (some ⟨Bn, 0, none⟩)] W fun e W' => (∃ v, e = .returned v) ∧
      ((∃ ys : List (Pl m), ys.map (·.1) = List.range m ∧ J ys W') ∨ (∃ pre, True ∧ Jx pre W')) := by
  refine callsIn_of_wp Tryz.func75 rfl hf ?_ hro
  simp only [Tryz.ntmps75, List.size_toArray, List.length_cons, List.length_nil, Nat.reduceAdd, Nat.reduceSub, Array.replicate_succ, Array.replicate_zero, List.push_toArray, List.append_toArray, List.nil_append, List.cons_append]
  gi_wp2
  gi_loopw [4] (fun i wr => ∃ (k : Nat) (pre : List (Pl m)), k ≤ m ∧ i = .int .i64 ((16 * k : Nat) : Int) ∧ pre.map (·.1) = List.range k ∧ J pre wr ∧ KP Bs Bn W wr) (fun i _ => 10016 - (intOf i).toNat)
  case atStart => exact ⟨0, [], Nat.zero_le _, rfl, rfl, h0, KP.refl _ _ _⟩
  case round =>
    obtain ⟨k, pre, hk, rfl, hp, hJs, hnx⟩ := hrel
    have kBs : wr.cell? ⟨Bs, 0, none⟩ = some (.slice A len cap) := (World.cell?_of_block (a := ⟨Bs, 0, none⟩) hnx.s).trans hBs
    have kBn : wr.cell? ⟨Bn, 0, none⟩ = some (.int .i64 16) := (World.cell?_of_block (a := ⟨Bn, 0, none⟩) hnx.n).trans hBn
    obtain ⟨ii, hii⟩ : ∃ ii, 16 * k = ii := ⟨_, rfl⟩
    rw [hii]
    by_cases hlt : k < m
    · have hlen0 : 0 < len := by omega
      obtain ⟨b, off, rfl⟩ := hA hlen0
      have hil : ii < len := by omega
      have hili : (ii : Int) < (len : Int) := by omega
      have hild : decide (ii < len) = true := by simpa using hil
      obtain ⟨ee, hee⟩ : ∃ ee, min 16 (len - ii) = ee := ⟨_, rfl⟩
      have hpl : pre.length = k := by
        have := congrArg List.length hp
        rwa [List.length_map, List.length_range] at this
      have hJd : J pre wr.drew := hJ pre wr wr.drew none hJs (grown_drew wr) (fun r e => by cases e)
      obtain ⟨fn, tmps, assign, body, hy, hR⟩ := hY pre ⟨k, hlt⟩ wr.drew hJd (by omega)
      have hp1 : (pre ++ [(⟨k, hlt⟩ : Pl m)]).map (·.1) = List.range (k + 1) := by rw [List.map_append, hp, List.range_succ]; rfl
      have HP1 := Lib.hid hp1
      unfold chunkV at hy
      simp only [Option.map_some] at hy
      rw [hii, hee] at hy
      have HI := Lib.hid hii
      clear hp1 hp hpl hii
      have hif : (if ((len - ii : Nat) : Int) < 16 then ((len - ii : Nat) : Int) else 16) = (ee : Int) := by split <;> omega
      have he1 : ee ≤ 16 := by omega
      have he2 : ii + ee ≤ len := by omega
      have he3 : (ii : Int) + (ee : Int) ≤ (cap : Int) := by omega
      have he4 : (ii : Int) ≤ (ii : Int) + (ee : Int) := by omega
      have he5 : ((ii : Int) + (ee : Int)).toNat - ii = ee := by omega
      have he6 : ¬ (cap = ii) := by omega
      have he7 : ¬ ((ii : Int) + (ee : Int) < 0) := by omega
      have he8 : ee ≠ 0 := by omega
      clear hee
      gi_wp2
      gi_region
      all_goals
        gi_wp2_with fail
        refine hR.mono ?_
        rintro e W3 (⟨rfl, hJ3, hk3⟩ | ⟨rfl, hJx3⟩)
        · have hk4 := hnx.drew.trans hk3
          have kBn3 : W3.cell? ⟨Bn, 0, none⟩ = some (.int .i64 16) := (World.cell?_of_block (a := ⟨Bn, 0, none⟩) hk4.n).trans hBn
          gi_wp2
          go_roundw
          case rel => exact ⟨k + 1, _, by omega, by have := HI.out; rw [show 16 * (k + 1) = ii + 16 by omega]; go_num, HP1.out, hJ3, hk4⟩
          case measure => have := HI.out; simp [intOf]; omega
        · gi_wp2
          refine bodyPost_ret (results_none rfl _ _ _) rfl ?_
          exact ⟨⟨_, rfl⟩, .inr ⟨_, trivial, hJx3⟩⟩
    · obtain rfl : k = m := by omega
      have HP := Lib.hid hp
      have hili : ¬ ((ii : Int) < (len : Int)) := by omega
      have hild : decide (ii < len) = false := by simp; omega
      clear hp
      gi_wp2
      go_end0
      exact ⟨⟨_, rfl⟩, .inl ⟨pre, HP.out, hJs⟩⟩

set_option maxHeartbeats 1000000 in
theorem chunk_in (F : Fence) (n : Nat) (hf : F.fn 65) (hro : F.round = none) (a : Option Addr) (len cap : Nat) (w : World) :
    CallsIn F n Tryz.prog 65 #[.slice a len cap, .int .i64 16] w fun e w' => e = .returned (.func (.func 75) #[] #[.pointer (some ⟨w.heap.size, 0, none⟩), .pointer (some ⟨w.heap.size + 1, 0, none⟩)]) ∧ w' = (w.alloc (.cells #[.slice a len cap] 39)).alloc (.cells #[.int .i64 16] 3) := by
  refine callsIn_of_wp Tryz.func65 rfl hf ?_ hro
  simp only [Tryz.ntmps65, List.size_toArray, List.length_cons, List.length_nil, Nat.reduceAdd, Nat.reduceSub, Array.replicate_succ, Array.replicate_zero, List.push_toArray, List.append_toArray, List.nil_append, List.cons_append]
  gi_wp2
  go_ret
  exact ⟨rfl, rfl⟩
theorem chunk_stops (F : Fence) (n : Nat) (hf : F.fn 75) (hro : F.round = none) (hn : 1 ≤ n) (Bs Bn cap len m : Nat) (A : Option Addr) (hlen : len ≤ 10000) (hcap : len ≤ cap) (hm : (len + 15) / 16 = m) (hA : 0 < len → ∃ b off, A = some ⟨b, off, none⟩) (w : World) (hBs : Bs < w.heap.size) (hBn : Bn < w.heap.size)
    (hc : w.cell? ⟨Bs, 0, none⟩ = some (.slice A len cap)) (hc2 : w.cell? ⟨Bn, 0, none⟩ = some (.int .i64 16)) :
    SeqStopsK F n Tryz.prog 75 #[.pointer (some ⟨Bs, 0, none⟩), .pointer (some ⟨Bn, 0, none⟩)] (fun x : Pl m => #[chunkV A len x.1]) (KP Bs Bn) (fun ys => ys.map (·.1) = List.range m) (fun _ => True) m w := fun l J Jx W hW hJ _ hY h0 =>
  chunk1_in F n hf hro hn l Bs Bn cap len m A hlen hcap hm hA J Jx W hJ hY ((hW.cell (p := ⟨Bs, 0, none⟩) hBs).trans hc) ((hW.cell (p := ⟨Bn, 0, none⟩) hBn).trans hc2) h0
end Go.Proofs.YtdmkkfpbgpijjaaGreat
