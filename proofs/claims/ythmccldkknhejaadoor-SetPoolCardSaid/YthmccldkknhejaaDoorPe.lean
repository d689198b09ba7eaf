/- set.each: what its iterator hands over: a set's categories, rising. -/
import Derived.Test.YthmccldkknhejaaDoorPd
import Derived.RangeFuncNested
import Derived.RangeFuncBound
import Derived.RangeFuncCalls
import Derived.RangeFuncLeaves
import Derived.RangeFuncBox
import Derived.Shelf.Abstract
import Derived.Shelf.RegionOpen
import Derived.OwnWalkIn
import Derived.TacticsInMore
import Derived.LoopNIn
import Derived.LoopIn
namespace Go.Proofs.YthmccldkknhejaaDoor
open Go.RowKit Go.Shelf

attribute [local go_sem] Oper.semAt_some
set_option linter.unusedVariables false

/-- A category of a set. -/
abbrev Cat (s : Nat) := { c : Nat // c ∈ cats s }
/-- What lay below n₀ lies as it lay, and so does block Bs. -/
def KE (n₀ Bs : Nat) (A B : World) : Prop := Below n₀ A B ∧ B.heap[Bs]? = A.heap[Bs]?
theorem KE.refl (n₀ Bs : Nat) (A : World) : KE n₀ Bs A A := ⟨Below.refl _ _, rfl⟩
theorem KE.trans {n₀ Bs : Nat} {A B C : World} (h : KE n₀ Bs A B) (k : KE n₀ Bs B C) : KE n₀ Bs A C := ⟨h.1.trans k.1, k.2.trans h.2⟩
theorem KE.setCell {n₀ Bs : Nat} {A B : World} (h : KE n₀ Bs A B) {p : Addr} (hp : n₀ ≤ p.block) (hne : Bs ≠ p.block) (v : Value) : KE n₀ Bs A (B.setCell p v) :=
  ⟨h.1.setCell hp v, (Below.heap_setCell B p v Bs hne).trans h.2⟩
theorem KE.drew {n₀ Bs : Nat} {A B : World} (h : KE n₀ Bs A B) : KE n₀ Bs A B.drew := ⟨h.1.drew, h.2⟩
theorem KE.cell {n₀ Bs : Nat} {A B : World} (h : KE n₀ Bs A B) : B.cell? ⟨Bs, 0, none⟩ = A.cell? ⟨Bs, 0, none⟩ := World.cell?_of_block h.2
theorem ke_b {n₀ Bs : Nat} {w : World} (hn : n₀ ≤ w.heap.size) (hB : Bs < w.heap.size) (W : World) (l : Nat) (o o' : Obj) (hl : w.heap.size ≤ l) (h : W.heap[l]? = some o) (h1 : o.isCells = false) (h2 : o.isWalk = false) : KE n₀ Bs W (W.putObj l o') :=
  ⟨belowK_b hn W l o o' hl h h1 h2, World.putObj_heap_other (by omega)⟩
/-- The least so many of a set. -/
def preN (s k : Nat) : List Nat := (cats s).take k

theorem tab_below {n₀ : Nat} {w w' : World} (h : Tab w) (hb : Below n₀ w w') (hn : 0 < n₀) : Tab w' := fun j hj => (hb.cell (p := ⟨0, j, none⟩) hn).trans (h j hj)

theorem drop_step {s u k : Nat} (hu : u < 18446744073709551616) (h0 : u ≠ 0) (h : cats u = (cats s).drop k) : cats (minus u (2 ^ Lib.ctz 64 u)) = (cats s).drop (k + 1) ∧ preN s k ++ [Lib.ctz 64 u] = preN s (k + 1) ∧ k < (cats s).length ∧ Lib.ctz 64 u ∈ cats s := by
  have e := cats_cons h0 hu
  rw [h] at e
  have hk : k < (cats s).length := by
    refine Nat.lt_of_not_le fun hle => ?_
    rw [List.drop_eq_nil_of_le hle] at e; cases e
  rw [List.drop_eq_getElem_cons hk] at e
  injection e with e1 e2
  refine ⟨e2.symm, ?_, hk, by rw [← e1]; exact List.getElem_mem hk⟩
  unfold preN
  rw [List.take_succ_eq_append_getElem hk, e1]

set_option maxRecDepth 100000 in
set_option maxHeartbeats 2000000 in
theorem each1_in (n : Nat) (hn : 1 ≤ n) (l Bs n₀ s : Nat) (hs : s < 18446744073709551616) (J Jx : List (Cat s) → World → Prop)
    (hY : ∀ pre x W, J pre W → pre.length < 64 → YieldAt Fence.wide (n - 1) Tryd.prog l #[.int .i64 (x.1 : Int)] W fun e W' =>
      (e = .returned (.bool true) ∧ J (pre ++ [x]) W' ∧ KE n₀ Bs W W') ∨ (e = .returned (.bool false) ∧ Jx (pre ++ [x]) W'))
    (W : World) (hBs : W.cell? ⟨Bs, 0, none⟩ = some (.int .u64 s)) (hT : Tab W) (hg : 0 < n₀) (h0 : J [] W) :
    CallsIn Fence.wide n Tryd.prog 49 #[.func (.yield l) #[] #[], .pointer (some ⟨Bs, 0, none⟩)] W fun e W' => (∃ v, e = .returned v) ∧
      ((∃ ys, ys.map (·.1) = cats s ∧ J ys W') ∨ (∃ pre, (∃ k, pre.map (·.1) = preN s k) ∧ Jx pre W')) := by
  have hro : Fence.wide.round = none := rfl
  refine callsIn_of_wp Tryd.func49 rfl trivial ?_ hro
  simp only [Tryd.ntmps49, List.size_toArray, List.length_cons, List.length_nil, Nat.reduceAdd, Nat.reduceSub, Array.replicate_succ, Array.replicate_zero, List.push_toArray, List.append_toArray, List.nil_append, List.cons_append]
  gi_wp2_with fail
  gi_loopw [3] (fun v wr => ∃ (u k : Nat) (pre : List (Cat s)), v = .int .u64 u ∧ u < 18446744073709551616 ∧ cats u = (cats s).drop k ∧ pre.map (·.1) = preN s k ∧ k ≤ (cats s).length ∧ J pre wr ∧ KE n₀ Bs W wr) (fun v _ => (cats (intOf v).toNat).length)
  case atStart => exact ⟨s, 0, [], rfl, hs, rfl, rfl, Nat.zero_le _, h0, KE.refl _ _ _⟩
  case round =>
    obtain ⟨u, k, pre, rfl, hu, hcu, hp, hk, hJs, hnx⟩ := hrel
    by_cases hz : u = 0
    · subst hz
      have hc0 : (cats s).drop k = [] := by rw [← hcu]; exact (cats_nil hu).2 rfl
      have hp1 : pre.map (·.1) = cats s := by
        have hle : (cats s).length ≤ k := List.drop_eq_nil_iff.1 hc0
        rw [hp]; unfold preN; rw [List.take_of_length_le hle]
      have HP := Lib.hid hp1
      clear hp hp1 hcu hc0
      gi_wp2
      go_end0
      exact ⟨⟨_, rfl⟩, .inl ⟨pre, HP.out, hJs⟩⟩
    · obtain ⟨d1, d2, d3, d4⟩ := drop_step hu hz hcu
      obtain ⟨hc64, _, _⟩ := ctz_bit hz hu
      have hmeas : (cats (minus u (2 ^ Lib.ctz 64 u))).length + 1 = (cats u).length := by rw [cats_cons hz hu]; rfl
      obtain ⟨c, hc⟩ : ∃ c, Lib.ctz 64 u = c := ⟨_, rfl⟩
      rw [hc] at d1 d2 d4 hc64 hmeas
      obtain ⟨v, hv⟩ : ∃ v, 2 ^ c = v := ⟨_, rfl⟩
      have hv2 : v < 18446744073709551616 := by rw [← hv]; exact one_lt hc64
      rw [hv] at d1 hmeas
      obtain ⟨m, hm⟩ : ∃ m, minus u v = m := ⟨_, rfl⟩
      have hm2 : m < 18446744073709551616 := by rw [← hm]; exact minus_lt hu
      have cLow := fun W => low_any u c hu hc W
      have cOnly := only_any c v hc64 hv
      have cMin := minus_any u v m hu hv2 hm
      rw [hm] at d1 hmeas
      have hTr : Tab wr := tab_below hT hnx.1 hg
      have hz1 : ((u : Int) != 0) = true := by simp [hz]
      have hpl : pre.length < 64 := by
        have := congrArg List.length hp
        have h3 := cats_length_le s
        rw [List.length_map] at this
        unfold preN at this
        rw [List.length_take] at this
        omega
      obtain ⟨fn, tmps, assign, body, hy, hR⟩ := hY pre ⟨c, d4⟩ wr hJs hpl
      have hp1 : (pre ++ [(⟨c, d4⟩ : Cat s)]).map (·.1) = preN s (k + 1) := by rw [List.map_append, hp, ← d2]; rfl
      have HP1 := Lib.hid hp1
      have HD1 := Lib.hid d1
      have HM := Lib.hid hmeas
      clear hp1 hp hpl d1 d2 hm hv hc hcu hz hmeas
      dsimp only at hy
      gi_wp2_with fail
      refine ⟨trivial, (callsIn_wide.2 (cLow _ hTr)).mono ?_⟩
      rintro e w' ⟨rfl, rfl⟩
      gi_wp2_with fail
      refine hR.mono ?_
      rintro e W3 (⟨rfl, hJ3, hk3⟩ | ⟨rfl, hJx3⟩)
      · gi_wp2_with fail
        refine ⟨trivial, (callsIn_wide.2 (cOnly _)).mono ?_⟩
        rintro e w' ⟨rfl, rfl⟩
        gi_wp2_with fail
        refine ⟨trivial, (callsIn_wide.2 (cMin _)).mono ?_⟩
        rintro e w' ⟨rfl, rfl⟩
        gi_wp2_with fail
        go_roundw
        case rel => exact ⟨m, k + 1, _, rfl, hm2, HD1.out, HP1.out, d3, hJ3, hnx.trans hk3⟩
        case measure => have := HM.out; simp [intOf]; omega
      · gi_wp2_with fail
        refine bodyPost_ret (results_none rfl _ _ _) rfl ?_
        exact ⟨⟨_, rfl⟩, .inr ⟨_, ⟨k + 1, HP1.out⟩, hJx3⟩⟩

set_option maxHeartbeats 1000000 in
theorem each_in (n : Nat) (s : Nat) (w : World) :
    CallsIn Fence.wide n Tryd.prog 38 #[.int .u64 s] w fun e w' => e = .returned (.func (.func 49) #[] #[.pointer (some ⟨w.heap.size, 0, none⟩)]) ∧ w' = w.alloc (.cells #[.int .u64 s] 23) := by
  refine callsIn_of_wp Tryd.func38 rfl trivial ?_ rfl
  simp only [Tryd.ntmps38, List.size_toArray, List.length_cons, List.length_nil, Nat.reduceAdd, Nat.reduceSub, Array.replicate_succ, Array.replicate_zero, List.push_toArray, List.append_toArray, List.nil_append, List.cons_append]
  gi_wp2
  go_ret
  exact ⟨rfl, rfl⟩
theorem each_stops (n : Nat) (hn : 1 ≤ n) (Bs n₀ s : Nat) (hs : s < 18446744073709551616) (w : World) (hBs : Bs < w.heap.size) (hc : w.cell? ⟨Bs, 0, none⟩ = some (.int .u64 s)) (hT : Tab w) (hg : 0 < n₀) (hn₀ : n₀ ≤ w.heap.size) :
    SeqStopsK Fence.wide n Tryd.prog 49 #[.pointer (some ⟨Bs, 0, none⟩)] (fun x : Cat s => #[Value.int .i64 (x.1 : Int)]) (KE n₀ Bs) (fun ys => ys.map (·.1) = cats s) (fun pre => ∃ k, pre.map (·.1) = preN s k) 64 w := fun l J Jx W hW _ _ hY h0 =>
  each1_in n hn l Bs n₀ s hs J Jx hY W ((hW.cell (p := ⟨Bs, 0, none⟩) hBs).trans hc) (tab_below hT hW (by omega)) hg h0
end Go.Proofs.YthmccldkknhejaaDoor
