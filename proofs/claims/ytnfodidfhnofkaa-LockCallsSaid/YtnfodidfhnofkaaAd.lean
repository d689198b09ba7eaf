/- What comes in at the statements of layer 8: lists of calls. -/
import Derived.Test.YtnfodidfhnofkaaAc
import Derived.ProofKit
import Derived.OpenShut
import Derived.LaidMore
import Derived.Stop.Joined
import Derived.Lib.LaidTab
import Derived.SevenTiedAt
import Derived.Deep.Slices
import Derived.Deep.Fields
import Derived.Laws.IdiomArrays
namespace Go.Proofs.Ytnfodidfhnofkaa
open Go.ChangeShapes Go.WideShapes Go.ChangeAt Go.RowKit Go.Deep

set_option maxRecDepth 100000 in
theorem one_call {H : Type} {enc : TypeId × Value → H} {W : World} {b o n : Nat} {cs : List Value} {x : DataW H × List MemPlace} (hc : W.cells? 0 ⟨b, o, none⟩ 8 = some cs) (h : DataW.trod enc Try.prog W 0 (fun _ => true) true n 34 cs = some x) :
    ∃ y : PCall, (∀ j v, (cvC y)[j]? = some v → W.cell? ⟨b, o + j, none⟩ = some v) ∧ okC y := by
  obtain ⟨_, hl, hat⟩ := World.cells?_some hc
  obtain ⟨ys, n', _, _, _, hyl, hf⟩ := DataW.trod_struct Try.underlying34 h
  match cs, hl with
  | [v0, v1, v2, v3, v4, v5, v6, v7], _ =>
    match ys, hyl with
    | [y0, y1, y2, y3, y4], _ =>
      have f0 : DataW.trod enc Try.prog W 0 (fun _ => true) true n' 3 (([v0, v1, v2, v3, v4, v5, v6, v7].drop 0).take (Try.prog.cellsOf 3)) = some y0 := hf 0 _ rfl
      have f1 : DataW.trod enc Try.prog W 0 (fun _ => true) true n' 3 (([v0, v1, v2, v3, v4, v5, v6, v7].drop 1).take (Try.prog.cellsOf 3)) = some y1 := hf 1 _ rfl
      have f2 : DataW.trod enc Try.prog W 0 (fun _ => true) true n' 24 (([v0, v1, v2, v3, v4, v5, v6, v7].drop 2).take (Try.prog.cellsOf 24)) = some y2 := hf 2 _ rfl
      have f3 : DataW.trod enc Try.prog W 0 (fun _ => true) true n' 4 (([v0, v1, v2, v3, v4, v5, v6, v7].drop 6).take (Try.prog.cellsOf 4)) = some y3 := hf 3 _ rfl
      have f4 : DataW.trod enc Try.prog W 0 (fun _ => true) true n' 3 (([v0, v1, v2, v3, v4, v5, v6, v7].drop 7).take (Try.prog.cellsOf 3)) = some y4 := hf 4 _ rfl
      rw [show Try.prog.cellsOf 3 = 1 by kernel_rfl] at f0 f1 f4
      rw [show Try.prog.cellsOf 4 = 1 by kernel_rfl] at f3
      rw [show Try.prog.cellsOf 24 = 4 by kernel_rfl] at f2
      obtain ⟨a0, e0, _, w0⟩ := DataW.trod_int Try.underlying3 (show DataW.trod enc Try.prog W 0 (fun _ => true) true n' 3 [v0] = some y0 from f0)
      obtain ⟨a1, e1, _, w1⟩ := DataW.trod_int Try.underlying3 (show DataW.trod enc Try.prog W 0 (fun _ => true) true n' 3 [v1] = some y1 from f1)
      obtain ⟨z0, z1, z2, z3, m, _, g0, g1, g2, g3⟩ := trod_array4 Try.underlying24 (by kernel_rfl) (show DataW.trod enc Try.prog W 0 (fun _ => true) true n' 24 [v2, v3, v4, v5] = some y2 from f2)
      obtain ⟨k0, r0, _, u0⟩ := DataW.trod_int Try.underlying5 g0
      obtain ⟨k1, r1, _, u1⟩ := DataW.trod_int Try.underlying5 g1
      obtain ⟨k2, r2, _, u2⟩ := DataW.trod_int Try.underlying5 g2
      obtain ⟨k3, r3, _, u3⟩ := DataW.trod_int Try.underlying5 g3
      obtain ⟨a6, e6, _⟩ := DataW.trod_bool Try.underlying4 (show DataW.trod enc Try.prog W 0 (fun _ => true) true n' 4 [v6] = some y3 from f3)
      obtain ⟨a7, e7, _, w7⟩ := DataW.trod_int Try.underlying3 (show DataW.trod enc Try.prog W 0 (fun _ => true) true n' 3 [v7] = some y4 from f4)
      simp only [List.cons.injEq, and_true] at e0 e1 e6 e7 r0 r1 r2 r3
      subst e0 e1 e6 e7 r0 r1 r2 r3
      have p0 := bounds_u8 u0
      have p1 := bounds_u8 u1
      have p2 := bounds_u8 u2
      have p3 := bounds_u8 u3
      have b0 := bounds_i64 w0
      have b1 := bounds_i64 w1
      have b7 := bounds_i64 w7
      have q : ∀ i, i < 8 → W.cell? ⟨b, o + i, none⟩ = [Value.int .i64 a0, .int .i64 a1, .int .u8 k0, .int .u8 k1, .int .u8 k2, .int .u8 k3, .bool a6, .int .i64 a7][i]? := fun i hi => by have := hat i hi; rw [Go.WideShapes.add_plain] at this; exact this
      refine ⟨⟨a0, a1, ⟨⟨k0.toNat, by omega⟩, ⟨k1.toNat, by omega⟩, ⟨k2.toNat, by omega⟩, ⟨k3.toNat, by omega⟩⟩, a6, a7⟩, fun j v hj => ?_, ?_, ?_, ?_⟩
      · have hj8 : j < 8 := (List.getElem?_eq_some_iff.1 hj).1
        rw [q j hj8, ← hj]
        unfold cvC kv
        simp only [Int.toNat_of_nonneg p0.1, Int.toNat_of_nonneg p1.1, Int.toNat_of_nonneg p2.1, Int.toNat_of_nonneg p3.1]
        rfl
      · unfold okI; omega
      · unfold okI; omega
      · unfold okI; omega
set_option maxRecDepth 100000 in
/-- Calls that come in. -/
theorem slice_calls {H : Type} {enc : TypeId × Value → H} {W : World} {a : Option Addr} {len cap : Nat} {d : DataW H} {p : List MemPlace} (h : DataW.Trod enc Try.prog W 0 (fun _ => true) true 22 (.slice a len cap) d p) :
    ∃ cs : List PCall, cs.length = len ∧ CallsIn W.heap.size W a cs ∧ (∀ x ∈ cs, okC x) ∧ len ≤ maxLen ∧ len ≤ cap := by
  obtain ⟨fuel, hf⟩ := h
  rcases open_slice Try.underlying22 hf with ⟨hcs, _⟩ | ⟨x, l, c, m, n, D, Pl, hcs, _, hl, hm, hmm, _, hi⟩
  · simp [Value.cells] at hcs
    obtain ⟨rfl, rfl, rfl⟩ := hcs
    exact ⟨[], rfl, fun h0 => absurd h0 (by simp), (fun _ hx => by cases hx), by simp, Nat.le_refl _⟩
  · simp [Value.cells] at hcs
    obtain ⟨rfl, rfl, rfl⟩ := hcs
    rw [show Try.prog.cellsOf 34 = 8 by kernel_rfl] at hi
    have hmc : len ≤ m := by rw [hmm]; simpa using hl
    rcases Nat.eq_zero_or_pos len with h0 | h0
    · subst h0
      exact ⟨[], rfl, fun h0 => absurd h0 (by simp), (fun _ hx => by cases hx), by simp, Nat.zero_le _⟩
    · obtain ⟨b, off, spot⟩ := x
      obtain ⟨cs0, hc0, _⟩ := hi 0 (by omega)
      have hspot : spot = none := by
        obtain ⟨_, hl0, hat0⟩ := World.cells?_some hc0
        have := hat0 0 (by omega)
        rw [List.getElem?_eq_getElem (by omega)] at this
        simpa [Addr.add] using World.cell?_spot this
      subst hspot
      have hall : ∀ i, i < len → ∃ y : PCall, (∀ j v, (cvC y)[j]? = some v → W.cell? ⟨b, off + i * 8 + j, none⟩ = some v) ∧ okC y := fun i hil => by
        obtain ⟨cs', hc', ht'⟩ := hi i (by omega)
        rw [Go.WideShapes.add_plain] at hc'
        exact one_call hc' ht'
      have hcho : ∀ i, ∃ y : PCall, i < len → (∀ j v, (cvC y)[j]? = some v → W.cell? ⟨b, off + i * 8 + j, none⟩ = some v) ∧ okC y := fun i => by
        by_cases hil : i < len
        · obtain ⟨y, hy⟩ := hall i hil; exact ⟨y, fun _ => hy⟩
        · exact ⟨⟨0, 0, K1, false, 0⟩, fun h => absurd h hil⟩
      let Y : Nat → PCall := fun i => (hcho i).choose
      have hY : ∀ i, i < len → (∀ j v, (cvC (Y i))[j]? = some v → W.cell? ⟨b, off + i * 8 + j, none⟩ = some v) ∧ okC (Y i) := fun i => (hcho i).choose_spec
      refine ⟨(List.range len).map Y, by simp, fun _ => ⟨b, off, rfl, ?_, fun j x hj => ?_⟩, fun x hx => ?_, by omega, by simpa using hl⟩
      · exact World.block_lt_of_cell? W _ ((hY 0 h0).1 0 _ rfl)
      · have hjl : j < len := by
          rcases Nat.lt_or_ge j len with h | h
          · exact h
          · rw [List.getElem?_eq_none (by simpa using h)] at hj; cases hj
        simp [hjl] at hj
        subst hj
        exact (hY j hjl).1
      · simp only [List.mem_map, List.mem_range] at hx
        obtain ⟨i, hil, rfl⟩ := hx
        exact (hY i hil).2
theorem own : ownKnob Try.prog.godebug = none := by kernel_rfl
theorem lockAll_len (A : Option Addr) (len cap : Nat) (cs : List PCall) (w : World) (hl : cs.length = len) (hc : CallsIn w.heap.size w A cs) (hok : ∀ c ∈ cs, okC c) (hm : len ≤ maxLen) :
    Calls Try.prog 6 #[.slice A len cap] w fun e w' => e = .returned (.bool true) ∧ Below w.heap.size w w' := by
  subst hl
  exact lockAll_any A cap cs w hc hok hm
end Go.Proofs.Ytnfodidfhnofkaa
