/- What comes in at the statements of layer 8: keys, lists of numbers. -/
import Derived.Test.YtnfodidfhnofkaaAd
import Derived.ChangeMaps5
namespace Go.Proofs.Ytnfodidfhnofkaa
open Go.ChangeShapes Go.WideShapes Go.ChangeAt Go.RowKit Go.Deep

theorem okWide_arr {P : Program} {w : World} {r : Reach} {base n : Nat} {t e : TypeId} {v : Value} (ht : P.underlying t = some (.array n e)) (h : Value.okWide P w r base t v) : ∃ cs, v = .agg cs ∧ cs.size = P.cellsOf t := by
  simp only [Value.okWide, ht] at h
  obtain ⟨cs, h1, h2, _⟩ := h
  exact ⟨cs, h1, h2⟩
set_option maxRecDepth 100000 in
/-- A key that comes in. -/
theorem key_value {H : Type} {enc : TypeId × Value → H} {W : World} {r0 : Reach} {b0 : Nat} {v : Value} {d : DataW H} {p : List MemPlace} (hv : Value.okWide Try.prog W r0 b0 24 v) (h : DataW.Trod enc Try.prog W 0 (fun _ => true) true 24 v d p) : ∃ k : KeyT, v = KV k := by
  obtain ⟨cs, rfl, hsz⟩ := okWide_arr Try.underlying24 hv
  rw [show Try.prog.cellsOf 24 = 4 by kernel_rfl] at hsz
  obtain ⟨fuel, hf⟩ := h
  obtain ⟨l⟩ := cs
  match l, hsz with
  | [v0, v1, v2, v3], _ =>
    obtain ⟨z0, z1, z2, z3, m, _, g0, g1, g2, g3⟩ := trod_array4 Try.underlying24 (by kernel_rfl) (show DataW.trod enc Try.prog W 0 (fun _ => true) true fuel 24 [v0, v1, v2, v3] = some _ from hf)
    obtain ⟨k0, r0, _, u0⟩ := DataW.trod_int Try.underlying5 g0
    obtain ⟨k1, r1, _, u1⟩ := DataW.trod_int Try.underlying5 g1
    obtain ⟨k2, r2, _, u2⟩ := DataW.trod_int Try.underlying5 g2
    obtain ⟨k3, r3, _, u3⟩ := DataW.trod_int Try.underlying5 g3
    simp only [List.cons.injEq, and_true] at r0 r1 r2 r3
    subst r0 r1 r2 r3
    have p0 := bounds_u8 u0
    have p1 := bounds_u8 u1
    have p2 := bounds_u8 u2
    have p3 := bounds_u8 u3
    refine ⟨⟨⟨k0.toNat, by omega⟩, ⟨k1.toNat, by omega⟩, ⟨k2.toNat, by omega⟩, ⟨k3.toNat, by omega⟩⟩, ?_⟩
    unfold KV kv
    simp only [Int.toNat_of_nonneg p0.1, Int.toNat_of_nonneg p1.1, Int.toNat_of_nonneg p2.1, Int.toNat_of_nonneg p3.1]
theorem slice_ints {H : Type} {enc : TypeId × Value → H} {t e : TypeId} {k : IntKind} {W : World} {a : Option Addr} {len cap : Nat} {d : DataW H} {p : List MemPlace} (ht : Try.prog.underlying t = some (.slice e)) (he : Try.prog.underlying e = some (.int k)) (hc : Try.prog.cellsOf e = 1)
    (h : DataW.Trod enc Try.prog W 0 (fun _ => true) true t (.slice a len cap) d p) : ∃ zs : List Int, zs.length = len ∧ Ints k W.heap.size W a zs ∧ (∀ n ∈ zs, (Lit.int k n).wf = true) ∧ len ≤ maxLen ∧ (a = none → cap = 0) := by
  obtain ⟨fuel, hf⟩ := h
  rcases open_ints ht he hc hf with ⟨hcs, _⟩ | ⟨x, l, c, zs, hcs, _, hl, hm, hz, _, hcell, hwz⟩
  · simp [Value.cells] at hcs
    obtain ⟨rfl, rfl, rfl⟩ := hcs
    exact ⟨[], rfl, Ints.nil, by simp, by simp, fun _ => rfl⟩
  · simp [Value.cells] at hcs
    obtain ⟨rfl, rfl, rfl⟩ := hcs
    have hz' : zs.length = cap := by simpa using hz
    have hlen : (zs.take len).length = len := by rw [List.length_take]; omega
    refine ⟨zs.take len, hlen, fun h0 => ?_, fun n hn => hwz n (List.mem_of_mem_take hn), by omega, fun e => by cases e⟩
    obtain ⟨b, off, rfl, hcc⟩ := ints_at hcell (by omega)
    have hb : b < W.heap.size := by
      have h1 := hcc 0 (by omega)
      rcases Nat.lt_or_ge b W.heap.size with hlt | hge
      · exact hlt
      · simp [World.cell?, Array.getElem?_eq_none hge] at h1
    refine ⟨b, off, rfl, hb, fun j hj => ?_⟩
    rw [hlen] at hj
    have h1 := hcc j (by omega)
    rw [h1]
    simp [List.getElem?_take_of_lt hj, List.getD]
end Go.Proofs.Ytnfodidfhnofkaa
