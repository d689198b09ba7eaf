/- Keys as values: what a key of a map reads as, and what a row's, a wish's and a holder's cells are; lists in memory whose block is known (moves). -/
import Derived.Test.YtnfodidfhnofkaaGa
import Derived.Test.YtnfodidfhnofkaaBd
import Derived.Test.YtnfodidfhnofkaaMp
import Derived.DeepKeys4
import Derived.OpenShut
import Derived.Maps.OwnSet
import Derived.Maps.RangeWalk
namespace Go.Proofs.Ytnfodidfhnofkaa
open Go.RowKit Go.Deep Go.Maps

/-! ### keys -/
def kv (k : KeyT) : List Value := [.int .u8 (k.a.val : Int), .int .u8 (k.b.val : Int), .int .u8 (k.c.val : Int), .int .u8 (k.d.val : Int)]
def KV (k : KeyT) : Value := .agg (kv k).toArray
theorem kv_len (k : KeyT) : (kv k).length = 4 := rfl
theorem kv_one (k : KeyT) : ∀ v ∈ kv k, v.oneCell' = true := by
  intro v hv
  simp only [kv, List.mem_cons, List.not_mem_nil, or_false] at hv
  rcases hv with rfl | rfl | rfl | rfl <;> rfl
theorem fin_cast {x y : Fin 256} (h : (x.val : Int) = (y.val : Int)) : x = y := Fin.ext (by omega)
theorem kv_inj {x y : KeyT} (h : kv x = kv y) : x = y := by
  obtain ⟨a, b, c, d⟩ := x
  obtain ⟨a', b', c', d'⟩ := y
  simp only [kv, List.cons.injEq, Value.int.injEq, true_and, and_true] at h
  rw [fin_cast h.1, fin_cast h.2.1, fin_cast h.2.2.1, fin_cast h.2.2.2]
theorem KV_inj {x y : KeyT} (h : KV x = KV y) : x = y := kv_inj (by simpa [KV] using h)
def kLit (k : KeyT) : Lit := .string (keyBytes [.int .u8 (k.a.val : Int), .int .u8 (k.b.val : Int), .int .u8 (k.c.val : Int), .int .u8 (k.d.val : Int)])
set_option maxRecDepth 100000 in
theorem laidOutP : laidOutB Try.prog = true := by kernel_rfl
set_option maxRecDepth 100000 in
theorem rowKey : (24 : TypeId) < Try.prog.types.size := of_decide_eq_true (by kernel_rfl)
theorem wideKey : (match Try.prog.underlying 24 with | some (.array _ _) | some (.struct _) => true | _ => false) = true := by rw [Try.underlying24]
set_option maxRecDepth 100000 in
theorem lawKey : Keyed Try.prog 24 := Keyed.of_law (deep_law_laid laidOutP (m := 2) (by omega) rowKey (by kernel_rfl) wideKey)
set_option maxRecDepth 100000 in
theorem cellsKey : Try.prog.cellsOf 24 = 4 := by kernel_rfl
set_option maxRecDepth 100000 in
theorem cellsU8 : Try.prog.cellsOf 5 = 1 := by kernel_rfl
set_option maxRecDepth 100000 in
theorem keyTypeKey : Try.prog.keyType 24 = true := by kernel_rfl
theorem wf_u8 {n : Int} : (Lit.int .u8 n).wf = true ↔ 0 ≤ n ∧ n < 256 := by
  simp [Lit.wf, IntKind.min, IntKind.max, IntKind.bits, IntKind.signed]
  omega
theorem lits_u8 (D : Nat) (n : Int) : Try.prog.keyLits (D + 1) 5 [.int .u8 n] = if 0 ≤ n ∧ n < 256 then some [.int .u8 n] else none := by
  unfold Program.keyLits
  rw [Try.underlying5]
  simp only [true_and, wf_u8]
set_option maxRecDepth 100000 in
theorem keyOf_kv (k : KeyT) : keyOf Try.prog 24 (KV k) = some (kLit k) := by
  have h : ∀ x : Fin 256, 0 ≤ (x.val : Int) ∧ (x.val : Int) < 256 := fun x => ⟨by omega, by have := x.isLt; omega⟩
  unfold keyOf
  rw [Try.underlying24]
  simp only [keyTypeKey, KV, Value.formed, Try.underlying24, cellsKey, Bool.true_and, Value.cells]
  rw [if_pos (by simp [kv])]
  unfold Program.keyLits
  rw [Try.underlying24]
  simp only [cellsKey, cellsU8, kv]
  have e : ∃ D, Try.prog.types.size = D + 1 := ⟨Try.prog.types.size - 1, (Nat.succ_pred_eq_of_pos (Nat.lt_of_le_of_lt (Nat.zero_le _) rowKey)).symm⟩
  obtain ⟨D, eD⟩ := e
  rw [eD]
  simp [List.range_succ, lits_u8, h, kLit]
set_option maxRecDepth 100000 in
theorem lits_inv {D : Nat} {cs : List Value} {l : List Lit} (h : Try.prog.keyLits (D + 1) 5 cs = some l) : ∃ x : Fin 256, cs = [.int .u8 (x.val : Int)] := by
  unfold Program.keyLits at h
  rw [Try.underlying5] at h
  match cs, h with
  | [.int q n], h =>
    simp only [wf_u8] at h
    split at h
    · rename_i e
      obtain ⟨rfl, e1, e2⟩ := e
      exact ⟨⟨n.toNat, by omega⟩, by simp; omega⟩
    · cases h
set_option maxRecDepth 100000 in
theorem keyOf_inv (v : Value) (l : Lit) (h : keyOf Try.prog 24 v = some l) : ∃ k : KeyT, True ∧ v = KV k := by
  unfold keyOf at h
  rw [Try.underlying24] at h
  simp only [keyTypeKey, Bool.true_and] at h
  split at h
  · rename_i hf
    cases v with
    | agg cs =>
      simp only [Value.formed, Try.underlying24, cellsKey, beq_iff_eq] at hf
      simp only [Option.map_eq_some_iff] at h
      obtain ⟨L, h, _⟩ := h
      unfold Program.keyLits at h
      rw [Try.underlying24] at h
      simp only [cellsKey, cellsU8, Value.cells] at h
      obtain ⟨D, eD⟩ : ∃ D, Try.prog.types.size = D + 1 := ⟨Try.prog.types.size - 1, (Nat.succ_pred_eq_of_pos (Nat.lt_of_le_of_lt (Nat.zero_le _) rowKey)).symm⟩
      rw [eD] at h
      have hcl : cs.toList.length = 4 := by rw [Array.length_toList]; exact hf
      obtain ⟨cl, rfl⟩ : ∃ cl : List Value, cs = cl.toArray := ⟨cs.toList, by simp⟩
      match cl, hcl with
      | [a, b, c, d], _ =>
        simp [List.range_succ, Option.bind_eq_some_iff] at h
        obtain ⟨_, ha, _, ⟨_, hb, _, ⟨_, hc, _, ⟨_, hd, _⟩, _⟩, _⟩, _⟩ := h
        obtain ⟨xa, ea⟩ := lits_inv ha
        obtain ⟨xb, eb⟩ := lits_inv hb
        obtain ⟨xc, ec⟩ := lits_inv hc
        obtain ⟨xd, ed⟩ := lits_inv hd
        exact ⟨⟨xa, xb, xc, xd⟩, trivial, by simp_all [KV, kv]⟩
    | _ => simp [Value.formed, Try.underlying24] at hf
  · cases h
theorem kindKey : KeyKind Try.prog 24 KV (fun _ => True) kLit := ⟨lawKey, fun x _ => keyOf_kv x, keyOf_inv, fun _ _ h => KV_inj h⟩
def okI (n : Int) : Prop := -9223372036854775808 ≤ n ∧ n ≤ 9223372036854775807
def iLit (n : Int) : Lit := .int .i64 n
theorem kindInt : KeyKind Try.prog 3 (Value.int .i64) okI iLit where
  law := int_keyed Try.underlying3
  is x hx := keyOf_int_mk Try.underlying3 (WalkArith.wf_i64 hx)
  inv v l h := by
    obtain ⟨x, e, _, hw⟩ := Maps.keyOf_int_inv Try.underlying3 h
    exact ⟨x, bounds_i64 hw, e⟩
  one x y h := by simpa using h
end Go.Proofs.Ytnfodidfhnofkaa
