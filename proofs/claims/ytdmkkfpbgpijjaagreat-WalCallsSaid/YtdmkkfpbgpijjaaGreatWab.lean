/- Records as plain data (RecD), and as the model has them; how two of them are compared. -/
import Derived.Test.YtdmkkfpbgpijjaaGreatWaa
import Derived.Laws.StructEq
namespace Go.Proofs.YtdmkkfpbgpijjaaGreat
open Go.RowKit Go.Deep

/-- A record of a log. -/
structure RecD where
  kind : Int
  tx : Int
  mask : Nat
  k0 : Int
  k1 : Int
  k2 : Int
  k3 : Int
  oT : Bool
  oN : Int
  nT : Bool
  nN : Int
def recC (r : RecD) : List Value := [.int .i64 r.kind, .int .i64 r.tx, .int .u16 r.mask, .int .u8 r.k0, .int .u8 r.k1, .int .u8 r.k2, .int .u8 r.k3, .bool r.oT, .int .i64 r.oN, .bool r.nT, .int .i64 r.nN]
def recV (r : RecD) : Value := .agg (recC r).toArray
theorem recV_eq (r : RecD) : recV r = .agg #[.int .i64 r.kind, .int .i64 r.tx, .int .u16 r.mask, .int .u8 r.k0, .int .u8 r.k1, .int .u8 r.k2, .int .u8 r.k3, .bool r.oT, .int .i64 r.oN, .bool r.nT, .int .i64 r.nN] := rfl
def zeroR : RecD := ⟨0, 0, 0, 0, 0, 0, 0, false, 0, false, 0⟩
def eqR (r s : RecD) : Bool := r.kind == s.kind && (r.tx == s.tx && (((r.mask : Int) == (s.mask : Int)) && ((r.k0 == s.k0 && (r.k1 == s.k1 && (r.k2 == s.k2 && r.k3 == s.k3))) && ((r.oT == s.oT && r.oN == s.oN) && (r.nT == s.nT && r.nN == s.nN)))))
theorem eqR_iff (r s : RecD) : eqR r s = true ↔ r = s := by
  cases r; cases s
  simp [eqR, RecD.mk.injEq, and_assoc, Int.natCast_inj]
theorem sz_u8 (w : World) : (sizeOf 5).run Tryz.prog w = .ok 1 w := by
  have e : Tryz.t5.size = 1 := rfl
  simp [sizeOf, e]
theorem run_eqKey (d : Nat) (a0 a1 a2 a3 b0 b1 b2 b3 : Int) (w : World) :
    (Op.equalIn (d + 2) 59 (.agg #[.int .u8 a0, .int .u8 a1, .int .u8 a2, .int .u8 a3]) (.agg #[.int .u8 b0, .int .u8 b1, .int .u8 b2, .int .u8 b3])).run Tryz.prog w = .ok (a0 == b0 && (a1 == b1 && (a2 == b2 && a3 == b3))) w := by
  have he := Tryz.underlying5
  have hp : ∀ (x0 x1 x2 x3 : Value) (i : Nat) (hi : i < 4) (w : World), (part 5 #[x0, x1, x2, x3] i).run Tryz.prog w = .ok (#[x0, x1, x2, x3].getD i undef) w := by
    intro x0 x1 x2 x3 i hi w
    match i, hi with
    | 0, _ => simp [part, isAgg, run_underlying he]
    | 1, _ => simp [part, isAgg, run_underlying he]
    | 2, _ => simp [part, isAgg, run_underlying he]
    | 3, _ => simp [part, isAgg, run_underlying he]
  rw [Op.equalIn]
  simp only [Sem.run_bind, run_underlying Tryz.underlying59, Result.andThen_ok, sz_u8, Std.Legacy.Range.forIn_eq_forIn_range', Std.Legacy.Range.size, Nat.sub_zero, Nat.add_sub_cancel, Nat.div_one]
  rw [show List.range' 0 4 1 = [0, 1, 2, 3] from rfl]
  have q : ∀ (a b : Int) (w : World), (Op.equalIn (d + 1) 5 (.int .u8 a) (.int .u8 b)).run Tryz.prog w = .ok (a == b) w := fun a b w => run_equalIn_int w d 5 .u8 .u8 a b he
  cases h0 : (a0 == b0) <;> cases h1 : (a1 == b1) <;> cases h2 : (a2 == b2) <;> cases h3 : (a3 == b3) <;>
    simp [List.forIn_cons, Sem.run_bind, hp _ _ _ _ 0 (by omega), hp _ _ _ _ 1 (by omega), hp _ _ _ _ 2 (by omega), hp _ _ _ _ 3 (by omega), Result.andThen_ok, q, h0, h1, h2, h3]
set_option maxRecDepth 100000 in
theorem run_eqVal (d : Nat) (a b : Bool) (m n : Int) (w : World) :
    (Op.equalIn (d + 2) 61 (.agg #[.bool a, .int .i64 m]) (.agg #[.bool b, .int .i64 n])).run Tryz.prog w = .ok (a == b && m == n) w := by
  rw [run_equalIn_agg _ _ _ _ _ Tryz.underlying61 (by kernel_rfl)]
  cases h0 : (a == b) <;> cases h1 : (m == n) <;> simp [Program.fieldsOf, Tryz.underlying61, Op.eqFields, part, isAgg, run_underlying Tryz.underlying3, run_underlying Tryz.underlying4, run_equalIn_int _ _ 3 .i64 .i64 _ _ Tryz.underlying3, run_equalIn_bool' _ _ 4 _ _ Tryz.underlying4, h0, h1, Sem.run_bind]
def recA (r : RecD) : Array Value := #[.int .i64 r.kind, .int .i64 r.tx, .int .u16 r.mask, .int .u8 r.k0, .int .u8 r.k1, .int .u8 r.k2, .int .u8 r.k3, .bool r.oT, .int .i64 r.oN, .bool r.nT, .int .i64 r.nN]
theorem part_kind (r : RecD) (w : World) : (part 3 (recA r) 0).run Tryz.prog w = .ok (.int .i64 r.kind) w := by simp [part, isAgg, run_underlying Tryz.underlying3, recA]
theorem part_tx (r : RecD) (w : World) : (part 3 (recA r) 1).run Tryz.prog w = .ok (.int .i64 r.tx) w := by simp [part, isAgg, run_underlying Tryz.underlying3, recA]
theorem part_mask (r : RecD) (w : World) : (part 57 (recA r) 2).run Tryz.prog w = .ok (.int .u16 r.mask) w := by simp [part, isAgg, run_underlying Tryz.underlying57, recA]
theorem part_key (r : RecD) (w : World) : (part 59 (recA r) 3).run Tryz.prog w = .ok (.agg #[.int .u8 r.k0, .int .u8 r.k1, .int .u8 r.k2, .int .u8 r.k3]) w := by
  simp [part, isAgg, run_underlying Tryz.underlying59, recA]
theorem part_old (r : RecD) (w : World) : (part 61 (recA r) 7).run Tryz.prog w = .ok (.agg #[.bool r.oT, .int .i64 r.oN]) w := by
  simp [part, isAgg, run_underlying Tryz.underlying61, recA]
theorem part_new (r : RecD) (w : World) : (part 61 (recA r) 9).run Tryz.prog w = .ok (.agg #[.bool r.nT, .int .i64 r.nN]) w := by
  simp [part, isAgg, run_underlying Tryz.underlying61, recA]
set_option maxRecDepth 100000 in
theorem run_eqR (r s : RecD) (w : World) : (binOp .eql 63 (recV r) (recV s)).run Tryz.prog w = .ok (.bool (eqR r s)) w := by
  show (binOp .eql 63 (.agg (recA r)) (.agg (recA s))).run Tryz.prog w = _
  rw [run_eql_struct, run_equalIn_agg _ _ _ _ _ Tryz.underlying63 (by kernel_rfl)]
  unfold eqR
  have q1 : ∀ (a b : Int) (w : World), (Op.equalIn 9999 3 (.int .i64 a) (.int .i64 b)).run Tryz.prog w = .ok (a == b) w := fun a b w => run_equalIn_int w 9998 3 .i64 .i64 a b Tryz.underlying3
  have q2 : ∀ (a b : Int) (w : World), (Op.equalIn 9999 57 (.int .u16 a) (.int .u16 b)).run Tryz.prog w = .ok (a == b) w := fun a b w => run_equalIn_int w 9998 57 .u16 .u16 a b Tryz.underlying57
  have q3 := fun a0 a1 a2 a3 b0 b1 b2 b3 w => run_eqKey 9997 a0 a1 a2 a3 b0 b1 b2 b3 w
  have q4 := fun a b m n w => run_eqVal 9997 a b m n w
  simp only [Program.fieldsOf, Tryz.underlying63, Op.eqFields]
  generalize hk : (r.k0 == s.k0 && (r.k1 == s.k1 && (r.k2 == s.k2 && r.k3 == s.k3))) = b3
  generalize ho : (r.oT == s.oT && r.oN == s.oN) = b4
  generalize hn : (r.nT == s.nT && r.nN == s.nN) = b5
  have e3 : ∀ w, (Op.equalIn 9999 59 (.agg #[.int .u8 r.k0, .int .u8 r.k1, .int .u8 r.k2, .int .u8 r.k3]) (.agg #[.int .u8 s.k0, .int .u8 s.k1, .int .u8 s.k2, .int .u8 s.k3])).run Tryz.prog w = .ok b3 w := fun w => by rw [q3, hk]
  have e4 : ∀ w, (Op.equalIn 9999 61 (.agg #[.bool r.oT, .int .i64 r.oN]) (.agg #[.bool s.oT, .int .i64 s.oN])).run Tryz.prog w = .ok b4 w := fun w => by rw [q4, ho]
  have e5 : ∀ w, (Op.equalIn 9999 61 (.agg #[.bool r.nT, .int .i64 r.nN]) (.agg #[.bool s.nT, .int .i64 s.nN])).run Tryz.prog w = .ok b5 w := fun w => by rw [q4, hn]
  generalize h0 : (r.kind == s.kind) = b0
  generalize h1 : (r.tx == s.tx) = b1
  generalize h2 : ((r.mask : Int) == (s.mask : Int)) = b2
  cases b0 <;> simp [part_kind, part_tx, part_mask, part_key, part_old, part_new, q1, q2, e3, e4, e5, h0, h1, h2]
  cases b1 <;> simp
  cases b2 <;> simp
  cases b3 <;> simp
  cases b4 <;> simp
  cases b5 <;> simp
set_option maxRecDepth 100000 in
/-- Two records compared, in a region. -/
theorem wpList_eqR {ops : Array Oper} {rest : List Oper} {o : Oper} {a : Act} {Q : Exit → Act → World → Prop} {W : World} (hw : Region.wanted o (yielded ops a.tmps) = true) (x y : Operand) (ho : o.op = .binOp .eql 63 x y 63)
    (r s : RecD) (hx : a.eval x = recV r) (hy : a.eval y = recV s) (b : Bool) (hb : eqR r s = b)
    (h : wpList Tryz.prog ops Q rest (a.put o.dst (.bool b)) W) : wpList Tryz.prog ops Q (o :: rest) a W := by
  refine BigFrame.wpList_want hw fun K hK => ?_
  have hrun := run_eqR r s W
  have hg : (eqGuard .eql 63 x y (recV r) (recV s)).run Tryz.prog W = .ok () W := run_eqGuard_agg W .eql 63 x y _ _ (by kernel_rfl)
  unfold Oper.wp
  simp [execOp, ho, hx, hy, hrun, hg, hb, Result.andThen]
  exact hK _ _ h
theorem bcell {W w1 : World} (hb : Below W.heap.size W w1) : (∀ b o, b < W.heap.size → w1.cell? ⟨b, o, none⟩ = W.cell? ⟨b, o, none⟩) ∧ (∀ b o, b < W.heap.size → w1.frozen? ⟨b, o, none⟩ = W.frozen? ⟨b, o, none⟩) :=
  ⟨fun b o h => hb.cell (p := ⟨b, o, none⟩) h, fun b o h => hb.frozen (p := ⟨b, o, none⟩) h⟩
end Go.Proofs.YtdmkkfpbgpijjaaGreat
