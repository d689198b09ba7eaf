/- What comes in at the statements of layer 3: bytes, and lists of calls. -/
import Derived.Test.YtckkgcogkcljeaaDi
import Derived.ProofKit
import Derived.OpenShut
import Derived.LaidMore
import Derived.Stop.Joined
import Derived.Lib.LaidTab
import Derived.SevenTiedAt
import Derived.Deep.Slices
import Derived.Deep.Fields
namespace Go.Proofs.Ytckkgcogkcljeaa
open Go.ChangeShapes Go.WideShapes Go.ChangeAt Go.RowKit Go.Deep

theorem own : ownKnob Try.prog.godebug = none := by kernel_rfl
theorem laidOut : laidOutB Try.prog = true := by kernel_rfl
/-- Bytes that come in. -/
theorem cells_good {H : Type} {enc : TypeId × Value → H} {W : World} {v : Value} {n : Nat} {x : DataW H × List MemPlace} (h : DataW.trod enc Try.prog W 0 (fun _ => true) true n 32 [v] = some x) :
    ∃ a cap, ∃ zs : List Int, v = .slice a zs.length cap ∧ Good0 W.heap.size W a cap zs ∧ isBytes zs ∧ zs.length ≤ maxLen := by
  rcases open_ints Try.underlying32 Try.underlying5 (by kernel_rfl) h with ⟨hcs, _⟩ | ⟨x, l, c, zs, hcs, _, hl, hm, hz, _, hcell, hwz⟩
  · simp at hcs
    subst hcs
    exact ⟨none, 0, [], rfl, ⟨Ints.nil, by simp, fun _ => rfl⟩, (fun z hz => by cases hz), by simp⟩
  · simp at hcs
    subst hcs
    have hz' : zs.length = c := by simpa using hz
    have hlen : (zs.take l).length = l := by rw [List.length_take]; omega
    refine ⟨some x, c, zs.take l, by rw [hlen], ⟨fun h0 => ?_, by omega, fun e => by cases e⟩, fun n hn => by have := bounds_u8 (hwz n (List.mem_of_mem_take hn)); omega, by omega⟩
    obtain ⟨b, off, rfl, hcc⟩ := ints_at hcell (by omega)
    have hb : b < W.heap.size := by
      have h1 := hcc 0 (by omega)
      exact World.block_lt_of_cell? W _ h1
    refine ⟨b, off, rfl, hb, fun j hj => ?_⟩
    rw [hlen] at hj
    rw [hcc j (by omega)]
    simp [List.getElem?_take_of_lt hj, List.getD]
theorem slice_good0 {H : Type} {enc : TypeId × Value → H} {W : World} {a : Option Addr} {len cap : Nat} {d : DataW H} {p : List MemPlace} (h : DataW.Trod enc Try.prog W 0 (fun _ => true) true 32 (.slice a len cap) d p) :
    ∃ zs : List Int, zs.length = len ∧ Good0 W.heap.size W a cap zs ∧ isBytes zs ∧ len ≤ maxLen := by
  obtain ⟨fuel, hf⟩ := h
  obtain ⟨a', cap', zs, e, h1, h2, h3⟩ := cells_good (v := .slice a len cap) hf
  simp only [Value.slice.injEq] at e
  obtain ⟨rfl, rfl, rfl⟩ := e
  exact ⟨zs, rfl, h1, h2, h3⟩
def okCall (x : CallD) : Prop := isBytes x.zs ∧ x.zs.length ≤ maxLen
theorem one_call {H : Type} {enc : TypeId × Value → H} {W : World} {b o n : Nat} {cs : List Value} {x : DataW H × List MemPlace} (hc : W.cells? 0 ⟨b, o, none⟩ 4 = some cs) (h : DataW.trod enc Try.prog W 0 (fun _ => true) true n 34 cs = some x) :
    ∃ y : CallD, CallAt W.heap.size W b o y ∧ okCall y := by
  obtain ⟨_, hl, hat⟩ := World.cells?_some hc
  obtain ⟨ys, n', _, _, _, hyl, hf⟩ := DataW.trod_struct Try.underlying34 h
  match cs, hl with
  | [v0, v1, v2, v3], _ =>
    match ys, hyl with
    | [y0, y1, y2, y3], _ =>
      have f0 : DataW.trod enc Try.prog W 0 (fun _ => true) true n' 3 (([v0, v1, v2, v3].drop 0).take (Try.prog.cellsOf 3)) = some y0 := hf 0 _ rfl
      have f1 : DataW.trod enc Try.prog W 0 (fun _ => true) true n' 3 (([v0, v1, v2, v3].drop 1).take (Try.prog.cellsOf 3)) = some y1 := hf 1 _ rfl
      have f2 : DataW.trod enc Try.prog W 0 (fun _ => true) true n' 3 (([v0, v1, v2, v3].drop 2).take (Try.prog.cellsOf 3)) = some y2 := hf 2 _ rfl
      have f3 : DataW.trod enc Try.prog W 0 (fun _ => true) true n' 32 (([v0, v1, v2, v3].drop 3).take (Try.prog.cellsOf 32)) = some y3 := hf 3 _ rfl
      rw [show Try.prog.cellsOf 3 = 1 by kernel_rfl] at f0 f1 f2
      rw [show Try.prog.cellsOf 32 = 1 by kernel_rfl] at f3
      obtain ⟨a0, e0, _, _⟩ := DataW.trod_int Try.underlying3 (show DataW.trod enc Try.prog W 0 (fun _ => true) true n' 3 [v0] = some y0 from f0)
      obtain ⟨a1, e1, _, _⟩ := DataW.trod_int Try.underlying3 (show DataW.trod enc Try.prog W 0 (fun _ => true) true n' 3 [v1] = some y1 from f1)
      obtain ⟨a2, e2, _, _⟩ := DataW.trod_int Try.underlying3 (show DataW.trod enc Try.prog W 0 (fun _ => true) true n' 3 [v2] = some y2 from f2)
      obtain ⟨a3, c3, zs, e3, g3, h3, m3⟩ := cells_good (show DataW.trod enc Try.prog W 0 (fun _ => true) true n' 32 [v3] = some y3 from f3)
      simp only [List.cons.injEq, and_true] at e0 e1 e2
      subst e0 e1 e2 e3
      have q : ∀ i, i < 4 → W.cell? ⟨b, o + i, none⟩ = [Value.int .i64 a0, .int .i64 a1, .int .i64 a2, .slice a3 zs.length c3][i]? := fun i hi => by have := hat i hi; rw [Go.WideShapes.add_plain] at this; exact this
      exact ⟨⟨a0, a1, a2, a3, c3, zs⟩, ⟨q 0 (by omega), q 1 (by omega), q 2 (by omega), q 3 (by omega), g3⟩, h3, m3⟩
/-- Calls that come in. -/
theorem slice_calls {H : Type} {enc : TypeId × Value → H} {W : World} {a : Option Addr} {len cap : Nat} {d : DataW H} {p : List MemPlace} (h : DataW.Trod enc Try.prog W 0 (fun _ => true) true 22 (.slice a len cap) d p) :
    ∃ cs : List CallD, cs.length = len ∧ CallsAt W.heap.size W a cs ∧ (∀ x ∈ cs, okCall x) ∧ len ≤ maxLen := by
  obtain ⟨fuel, hf⟩ := h
  rcases open_slice Try.underlying22 hf with ⟨hcs, _⟩ | ⟨x, l, c, m, n, D, Pl, hcs, _, hl, hm, hmm, _, hi⟩
  · simp [Value.cells] at hcs
    obtain ⟨rfl, rfl, rfl⟩ := hcs
    exact ⟨[], rfl, fun h0 => absurd h0 (by simp), (fun _ hx => by cases hx), by simp⟩
  · simp [Value.cells] at hcs
    obtain ⟨rfl, rfl, rfl⟩ := hcs
    rw [show Try.prog.cellsOf 34 = 4 by kernel_rfl] at hi
    have hmc : len ≤ m := by rw [hmm]; simpa using hl
    rcases Nat.eq_zero_or_pos len with h0 | h0
    · subst h0
      exact ⟨[], rfl, fun h0 => absurd h0 (by simp), (fun _ hx => by cases hx), by simp⟩
    · obtain ⟨b, off, spot⟩ := x
      obtain ⟨cs0, hc0, _⟩ := hi 0 (by omega)
      have hspot : spot = none := by
        obtain ⟨_, hl0, hat0⟩ := World.cells?_some hc0
        have := hat0 0 (by omega)
        rw [List.getElem?_eq_getElem (by omega)] at this
        simpa [Addr.add] using World.cell?_spot this
      subst hspot
      have hall : ∀ i, i < len → ∃ y : CallD, CallAt W.heap.size W b (off + i * 4) y ∧ okCall y := fun i hil => by
        obtain ⟨cs', hc', ht'⟩ := hi i (by omega)
        rw [Go.WideShapes.add_plain] at hc'
        exact one_call hc' ht'
      have hcho : ∀ i, ∃ y : CallD, i < len → CallAt W.heap.size W b (off + i * 4) y ∧ okCall y := fun i => by
        by_cases hil : i < len
        · obtain ⟨y, hy⟩ := hall i hil; exact ⟨y, fun _ => hy⟩
        · exact ⟨⟨0, 0, 0, none, 0, []⟩, fun h => absurd h hil⟩
      let Y : Nat → CallD := fun i => (hcho i).choose
      have hY : ∀ i, i < len → CallAt W.heap.size W b (off + i * 4) (Y i) ∧ okCall (Y i) := fun i => (hcho i).choose_spec
      refine ⟨(List.range len).map Y, by simp, fun _ => ⟨b, off, rfl, ?_, fun j x hj => ?_⟩, fun x hx => ?_, by omega⟩
      · exact World.block_lt_of_cell? W _ (hY 0 h0).1.1
      · have hjl : j < len := by
          rcases Nat.lt_or_ge j len with h | h
          · exact h
          · rw [List.getElem?_eq_none (by simpa using h)] at hj; cases hj
        simp [hjl] at hj
        subst hj
        exact (hY j hjl).1
      · simp only [List.mem_map, List.mem_range] at hx
        obtain ⟨i, hil, rfl⟩ := hx
        exact (hY i hil).2
end Go.Proofs.Ytckkgcogkcljeaa
