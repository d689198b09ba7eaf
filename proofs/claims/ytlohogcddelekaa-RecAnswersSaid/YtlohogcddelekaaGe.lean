/- The frame of a statement whose row names no variable, over Gc and records: what comes in, for parameters that are bytes, numbers, records and lists of records. -/
import Derived.Test.YtlohogcddelekaaEn
import Derived.ProofKit
import Derived.OpenShut
import Derived.LaidMore
import Derived.Stop.Joined
import Derived.Lib.LaidTab
import Derived.SevenTiedAt
import Derived.Deep.Slices
import Derived.Deep.Fields
namespace Go.Proofs.Ytlohogcddelekaa
open Go.ChangeShapes Go.WideShapes Go.ChangeAt Go.RowKit Go.Deep

theorem own : ownKnob Try.prog.godebug = none := by kernel_rfl
theorem laidOut : laidOutB Try.prog = true := by kernel_rfl
/-- Bytes that come in. -/
theorem slice_good {H : Type} {enc : TypeId × Value → H} {t e : TypeId} {W : World} {a : Option Addr} {len cap : Nat} {d : DataW H} {p : List MemPlace} (ht : Try.prog.underlying t = some (.slice e)) (he : Try.prog.underlying e = some (.int .u8)) (hc : Try.prog.cellsOf e = 1)
    (h : DataW.Trod enc Try.prog W 0 (fun _ => true) true t (.slice a len cap) d p) : ∃ zs : List Int, zs.length = len ∧ Good a cap zs W ∧ isBytes zs ∧ len ≤ maxLen := by
  obtain ⟨fuel, hf⟩ := h
  rcases open_ints ht he hc hf with ⟨hcs, _⟩ | ⟨x, l, c, zs, hcs, _, hl, hm, hz, _, hcell, hwz⟩
  · simp [Value.cells] at hcs
    obtain ⟨rfl, rfl, rfl⟩ := hcs
    exact ⟨[], rfl, Good.nil W, (fun z hz => by cases hz), by simp⟩
  · simp [Value.cells] at hcs
    obtain ⟨rfl, rfl, rfl⟩ := hcs
    have hz' : zs.length = cap := by simpa using hz
    have hlen : (zs.take len).length = len := by rw [List.length_take]; omega
    refine ⟨zs.take len, hlen, ⟨fun h0 => ?_, by omega, fun e => by cases e⟩, fun n hn => by have := bounds_u8 (hwz n (List.mem_of_mem_take hn)); omega, by omega⟩
    obtain ⟨b, off, rfl, hcc⟩ := ints_at hcell (by omega)
    have hb : b < W.heap.size := by
      have h1 := hcc 0 (by omega)
      rcases Nat.lt_or_ge b W.heap.size with hlt | hge
      · exact hlt
      · simp [World.cell?, Array.getElem?_eq_none hge] at h1
    refine ⟨b, off, rfl, hb, fun j hj => ?_⟩
    rw [hlen] at hj
    have h1 := hcc j (by omega)
    rw [h1]
    simp [List.getElem?_take_of_lt hj, List.getD]
theorem one_val {H : Type} {enc : TypeId × Value → H} {W : World} {v0 v1 : Value} {n : Nat} {x : DataW H × List MemPlace} (h : DataW.trod enc Try.prog W 0 (fun _ => true) true n 30 [v0, v1] = some x) : ∃ t k, v0 = .bool t ∧ v1 = .int .i64 k ∧ isI64 k := by
  obtain ⟨ys, n', _, _, _, hyl, hf⟩ := DataW.trod_struct Try.underlying30 h
  match ys, hyl with
  | [y0, y1], _ =>
    have f0 : DataW.trod enc Try.prog W 0 (fun _ => true) true n' 4 (([v0, v1].drop 0).take (Try.prog.cellsOf 4)) = some y0 := hf 0 _ rfl
    have f1 : DataW.trod enc Try.prog W 0 (fun _ => true) true n' 3 (([v0, v1].drop 1).take (Try.prog.cellsOf 3)) = some y1 := hf 1 _ rfl
    rw [show Try.prog.cellsOf 3 = 1 by kernel_rfl] at f1
    rw [show Try.prog.cellsOf 4 = 1 by kernel_rfl] at f0
    obtain ⟨b0, e0, _⟩ := DataW.trod_bool Try.underlying4 (show DataW.trod enc Try.prog W 0 (fun _ => true) true n' 4 [v0] = some y0 from f0)
    obtain ⟨a1, e1, _, w1⟩ := DataW.trod_int Try.underlying3 (show DataW.trod enc Try.prog W 0 (fun _ => true) true n' 3 [v1] = some y1 from f1)
    simp only [List.cons.injEq, and_true] at e0 e1
    have := bounds_i64 w1
    exact ⟨b0, a1, e0, e1, by omega, by omega⟩
theorem one_key {H : Type} {enc : TypeId × Value → H} {W : World} {v0 v1 v2 v3 : Value} {n : Nat} {x : DataW H × List MemPlace} (h : DataW.trod enc Try.prog W 0 (fun _ => true) true n 28 [v0, v1, v2, v3] = some x) :
    ∃ a b c d, v0 = .int .u8 a ∧ v1 = .int .u8 b ∧ v2 = .int .u8 c ∧ v3 = .int .u8 d ∧ (0 ≤ a ∧ a < 256) ∧ (0 ≤ b ∧ b < 256) ∧ (0 ≤ c ∧ c < 256) ∧ (0 ≤ d ∧ d < 256) := by
  obtain ⟨ys, n', _, _, _, hyl, hf⟩ := DataW.trod_array Try.underlying28 h
  rw [show Try.prog.cellsOf 5 = 1 by kernel_rfl] at hf
  match ys, hyl with
  | [y0, y1, y2, y3], _ =>
    obtain ⟨a0, e0, _, w0⟩ := DataW.trod_int Try.underlying5 (show DataW.trod enc Try.prog W 0 (fun _ => true) true n' 5 [v0] = some y0 from hf 0 (by omega))
    obtain ⟨a1, e1, _, w1⟩ := DataW.trod_int Try.underlying5 (show DataW.trod enc Try.prog W 0 (fun _ => true) true n' 5 [v1] = some y1 from hf 1 (by omega))
    obtain ⟨a2, e2, _, w2⟩ := DataW.trod_int Try.underlying5 (show DataW.trod enc Try.prog W 0 (fun _ => true) true n' 5 [v2] = some y2 from hf 2 (by omega))
    obtain ⟨a3, e3, _, w3⟩ := DataW.trod_int Try.underlying5 (show DataW.trod enc Try.prog W 0 (fun _ => true) true n' 5 [v3] = some y3 from hf 3 (by omega))
    simp only [List.cons.injEq, and_true] at e0 e1 e2 e3
    have b0 := bounds_u8 w0
    have b1 := bounds_u8 w1
    have b2 := bounds_u8 w2
    have b3 := bounds_u8 w3
    exact ⟨a0, a1, a2, a3, e0, e1, e2, e3, by omega, by omega, by omega, by omega⟩
/-- A record that comes in. -/
theorem one_rec {H : Type} {enc : TypeId × Value → H} {W : World} {cs : List Value} {n : Nat} {x : DataW H × List MemPlace} (hl : cs.length = 11) (h : DataW.trod enc Try.prog W 0 (fun _ => true) true n 32 cs = some x) :
    ∃ r : RecD, cs = recC r ∧ okR r := by
  match cs, hl with
  | [v0, v1, v2, v3, v4, v5, v6, v7, v8, v9, v10], _ =>
    obtain ⟨ys, n', _, _, _, hyl, hf⟩ := DataW.trod_struct Try.underlying32 h
    match ys, hyl with
    | [y0, y1, y2, y3, y4, y5], _ =>
      have f0 : DataW.trod enc Try.prog W 0 (fun _ => true) true n' 3 (([v0, v1, v2, v3, v4, v5, v6, v7, v8, v9, v10].drop 0).take (Try.prog.cellsOf 3)) = some y0 := hf 0 _ rfl
      have f1 : DataW.trod enc Try.prog W 0 (fun _ => true) true n' 3 (([v0, v1, v2, v3, v4, v5, v6, v7, v8, v9, v10].drop 1).take (Try.prog.cellsOf 3)) = some y1 := hf 1 _ rfl
      have f2 : DataW.trod enc Try.prog W 0 (fun _ => true) true n' 26 (([v0, v1, v2, v3, v4, v5, v6, v7, v8, v9, v10].drop 2).take (Try.prog.cellsOf 26)) = some y2 := hf 2 _ rfl
      have f3 : DataW.trod enc Try.prog W 0 (fun _ => true) true n' 28 (([v0, v1, v2, v3, v4, v5, v6, v7, v8, v9, v10].drop 3).take (Try.prog.cellsOf 28)) = some y3 := hf 3 _ rfl
      have f4 : DataW.trod enc Try.prog W 0 (fun _ => true) true n' 30 (([v0, v1, v2, v3, v4, v5, v6, v7, v8, v9, v10].drop 7).take (Try.prog.cellsOf 30)) = some y4 := hf 4 _ rfl
      have f5 : DataW.trod enc Try.prog W 0 (fun _ => true) true n' 30 (([v0, v1, v2, v3, v4, v5, v6, v7, v8, v9, v10].drop 9).take (Try.prog.cellsOf 30)) = some y5 := hf 5 _ rfl
      rw [show Try.prog.cellsOf 3 = 1 by kernel_rfl] at f0 f1
      rw [show Try.prog.cellsOf 26 = 1 by kernel_rfl] at f2
      rw [show Try.prog.cellsOf 28 = 4 by kernel_rfl] at f3
      rw [show Try.prog.cellsOf 30 = 2 by kernel_rfl] at f4 f5
      obtain ⟨a0, e0, _, _⟩ := DataW.trod_int Try.underlying3 (show DataW.trod enc Try.prog W 0 (fun _ => true) true n' 3 [v0] = some y0 from f0)
      obtain ⟨a1, e1, _, _⟩ := DataW.trod_int Try.underlying3 (show DataW.trod enc Try.prog W 0 (fun _ => true) true n' 3 [v1] = some y1 from f1)
      obtain ⟨a2, e2, _, w2⟩ := DataW.trod_int Try.underlying26 (show DataW.trod enc Try.prog W 0 (fun _ => true) true n' 26 [v2] = some y2 from f2)
      obtain ⟨k0, k1, k2, k3, q0, q1, q2, q3, p0, p1, p2, p3⟩ := one_key (show DataW.trod enc Try.prog W 0 (fun _ => true) true n' 28 [v3, v4, v5, v6] = some y3 from f3)
      obtain ⟨t4, n4, r0, r1, i4⟩ := one_val (show DataW.trod enc Try.prog W 0 (fun _ => true) true n' 30 [v7, v8] = some y4 from f4)
      obtain ⟨t5, n5, s0, s1, i5⟩ := one_val (show DataW.trod enc Try.prog W 0 (fun _ => true) true n' 30 [v9, v10] = some y5 from f5)
      simp only [List.cons.injEq, and_true] at e0 e1 e2
      have b2 : 0 ≤ a2 ∧ a2 < 65536 := by have := bounds_u16 w2; omega
      subst e0 e1 e2 q0 q1 q2 q3 r0 r1 s0 s1
      refine ⟨⟨a0, a1, a2.toNat, k0, k1, k2, k3, t4, n4, t5, n5⟩, ?_, ⟨by dsimp only; omega, p0, p1, p2, p3, i4, i5⟩⟩
      simp only [recC]
      rw [show ((a2.toNat : Nat) : Int) = a2 by omega]
/-- A record by value that comes in. -/
theorem rec_value {H : Type} {enc : TypeId × Value → H} {W : World} {r0 : Reach} {b0 : Nat} {v : Value} {d : DataW H} {p : List MemPlace} (hv : Value.okWide Try.prog W r0 b0 32 v) (h : DataW.Trod enc Try.prog W 0 (fun _ => true) true 32 v d p) : ∃ r : RecD, v = recV r ∧ okR r := by
  obtain ⟨cs, rfl, hsz⟩ := okWide_struct Try.underlying32 hv
  rw [show Try.prog.cellsOf 32 = 11 by kernel_rfl] at hsz
  obtain ⟨fuel, hf⟩ := h
  obtain ⟨r, e, ok⟩ := one_rec (cs := cs.toList) (by simpa using hsz) hf
  refine ⟨r, ?_, ok⟩
  unfold recV
  rw [← e]
/-- Lists of records that come in. -/
theorem slice_recs {H : Type} {enc : TypeId × Value → H} {W : World} {a : Option Addr} {len cap : Nat} {d : DataW H} {p : List MemPlace} (h : DataW.Trod enc Try.prog W 0 (fun _ => true) true 22 (.slice a len cap) d p) :
    ∃ rs : List RecD, rs.length = len ∧ GoodR a cap rs W ∧ (∀ r ∈ rs, okR r) ∧ len ≤ maxLen := by
  obtain ⟨fuel, hf⟩ := h
  rcases open_slice Try.underlying22 hf with ⟨hcs, _⟩ | ⟨x, l, c, m, n, D, Pl, hcs, _, hl, hm, hmm, _, hi⟩
  · simp [Value.cells] at hcs
    obtain ⟨rfl, rfl, rfl⟩ := hcs
    exact ⟨[], rfl, ⟨fun h0 => absurd h0 (by simp), by simp, fun _ => rfl⟩, (fun _ hx => by cases hx), by simp⟩
  · simp [Value.cells] at hcs
    obtain ⟨rfl, rfl, rfl⟩ := hcs
    rw [show Try.prog.cellsOf 32 = 11 by kernel_rfl] at hi
    have hmc : len ≤ m := by rw [hmm]; simpa using hl
    rcases Nat.eq_zero_or_pos len with h0 | h0
    · subst h0
      exact ⟨[], rfl, ⟨fun h0 => absurd h0 (by simp), by simp, fun e => by cases e⟩, (fun _ hx => by cases hx), by simp⟩
    · obtain ⟨b, off, spot⟩ := x
      obtain ⟨cs0, hc0, _⟩ := hi 0 (by omega)
      have hspot : spot = none := by
        obtain ⟨_, hl0, hat0⟩ := World.cells?_some hc0
        have := hat0 0 (by omega)
        rw [List.getElem?_eq_getElem (by omega)] at this
        simpa [Addr.add] using World.cell?_spot this
      subst hspot
      have hall : ∀ i, i < len → ∃ r : RecD, RecO W b (off + i * 11) r ∧ okR r := fun i hil => by
        obtain ⟨cs', hc', ht'⟩ := hi i (by omega)
        rw [Go.WideShapes.add_plain] at hc'
        obtain ⟨_, hl', hat'⟩ := World.cells?_some hc'
        obtain ⟨r, e, ok⟩ := one_rec hl' ht'
        refine ⟨r, fun j v hv => ?_, ok⟩
        have hj : j < 11 := by
          rcases Nat.lt_or_ge j 11 with hlt | hge
          · exact hlt
          · rw [List.getElem?_eq_none (by rw [recC_len]; exact hge)] at hv; cases hv
        have := hat' j hj
        rw [Go.WideShapes.add_plain, e, hv] at this
        exact this
      have hcho : ∀ i, ∃ r : RecD, i < len → RecO W b (off + i * 11) r ∧ okR r := fun i => by
        by_cases hil : i < len
        · obtain ⟨y, hy⟩ := hall i hil; exact ⟨y, fun _ => hy⟩
        · exact ⟨zeroR, fun h => absurd h hil⟩
      let Y : Nat → RecD := fun i => (hcho i).choose
      have hY : ∀ i, i < len → RecO W b (off + i * 11) (Y i) ∧ okR (Y i) := fun i => (hcho i).choose_spec
      have hblt : b < W.heap.size := World.block_lt_of_cell? W _ ((hY 0 h0).1 0 _ rfl)
      refine ⟨(List.range len).map Y, by simp, ⟨fun _ => ⟨b, off, rfl, hblt, fun j r hj => ?_⟩, by simp; omega, fun e => by cases e⟩, fun x hx => ?_, by omega⟩
      · have hjl : j < len := by
          rcases Nat.lt_or_ge j len with h | h
          · exact h
          · rw [List.getElem?_eq_none (by simpa using h)] at hj; cases hj
        simp [hjl] at hj
        subst hj
        exact (hY j hjl).1
      · simp only [List.mem_map, List.mem_range] at hx
        obtain ⟨i, hil, rfl⟩ := hx
        exact (hY i hil).2
end Go.Proofs.Ytlohogcddelekaa
