/- Lists of records compared (SameRecs); several rows of one's own at once: appended one by one. -/
import Derived.Test.YtlohogcddelekaaEp
namespace Go.Proofs.Ytlohogcddelekaa
open Go.RowKit Go.Deep
set_option linter.unusedVariables false

theorem run_neqR (r s : RecD) (w : World) : (binOp .neq 32 (recV r) (recV s)).run Try.prog w = .ok (.bool (!eqR r s)) w := by
  have h := run_eqR r s w
  rw [recV_eq, recV_eq, run_eql_struct] at h
  rw [recV_eq, recV_eq, run_neq_struct]
  cases hx : (Op.equalIn 10000 32 (.agg #[.int .i64 r.kind, .int .i64 r.tx, .int .u16 r.mask, .int .u8 r.k0, .int .u8 r.k1, .int .u8 r.k2, .int .u8 r.k3, .bool r.oT, .int .i64 r.oN, .bool r.nT, .int .i64 r.nN]) (.agg #[.int .i64 s.kind, .int .i64 s.tx, .int .u16 s.mask, .int .u8 s.k0, .int .u8 s.k1, .int .u8 s.k2, .int .u8 s.k3, .bool s.oT, .int .i64 s.oN, .bool s.nT, .int .i64 s.nN])).run Try.prog w with
  | ok b w' =>
    rw [hx] at h
    simp at h
    obtain ⟨rfl, rfl⟩ := h
    simp
  | halt x w' =>
    rw [hx] at h
    simp [Result.andThen] at h
set_option maxRecDepth 100000 in
set_option maxHeartbeats 2000000 in
theorem sameR (A A' : Option Addr) (xs : List RecD) (l c c' : Nat) (hl : xs.length = l) (hl2 : l ≤ 2000) (w : World) (g : GoodR A c xs w) (g' : GoodR A' c' xs w) :
    Calls Try.prog 21 #[.slice A l c, .slice A' l c'] w fun e w' => e = .returned (.bool true) ∧ Below w.heap.size w w' := by
  have hne : ((l : Int) != (l : Int)) = false := by simp
  have HL := Lib.hid hl
  clear hl
  go_enter Try.func21, Try.ntmps21
  go_wp2
  go_loopw [5] (fun i wr => ∃ k : Nat, k ≤ l ∧ i = .int .i64 k ∧ Dr w wr) (fun i _ => l - (intOf i).toNat)
  case atStart => exact ⟨0, Nat.zero_le _, rfl, Dr.refl w⟩
  case round =>
    obtain ⟨k, hk, rfl, n, rfl⟩ := hrel
    by_cases hlt : k < l
    · have hkl : k < xs.length := by have := HL.out; omega
      obtain ⟨b, off, rfl, hb, hro⟩ := g.cells k hkl
      obtain ⟨b', off', rfl, hb', hro'⟩ := g'.cells k hkl
      have hN : ∀ (r : RecD) (W : World), (binOp .neq 32 (.agg #[.int .i64 r.kind, .int .i64 r.tx, .int .u16 r.mask, .int .u8 r.k0, .int .u8 r.k1, .int .u8 r.k2, .int .u8 r.k3, .bool r.oT, .int .i64 r.oN, .bool r.nT, .int .i64 r.nN]) (.agg #[.int .i64 r.kind, .int .i64 r.tx, .int .u16 r.mask, .int .u8 r.k0, .int .u8 r.k1, .int .u8 r.k2, .int .u8 r.k3, .bool r.oT, .int .i64 r.oN, .bool r.nT, .int .i64 r.nN])).run Try.prog W = .ok (.bool false) W := fun r W => by
        have := run_neqR r r W
        rw [(eqR_iff r r).2 rfl] at this
        exact this
      have hN' := hN xs[k]
      clear hN
      generalize xs[k] = r at *
      have p0 : w.cell? ⟨b, off + k * 11, none⟩ = some (.int .i64 r.kind) := hro 0 _ rfl
      have p1 : w.cell? ⟨b, off + k * 11 + 1, none⟩ = some (.int .i64 r.tx) := hro 1 _ rfl
      have p2 : w.cell? ⟨b, off + k * 11 + 2, none⟩ = some (.int .u16 r.mask) := hro 2 _ rfl
      have p3 : w.cell? ⟨b, off + k * 11 + 3, none⟩ = some (.int .u8 r.k0) := hro 3 _ rfl
      have p4 : w.cell? ⟨b, off + k * 11 + 4, none⟩ = some (.int .u8 r.k1) := hro 4 _ rfl
      have p5 : w.cell? ⟨b, off + k * 11 + 5, none⟩ = some (.int .u8 r.k2) := hro 5 _ rfl
      have p6 : w.cell? ⟨b, off + k * 11 + 6, none⟩ = some (.int .u8 r.k3) := hro 6 _ rfl
      have p7 : w.cell? ⟨b, off + k * 11 + 7, none⟩ = some (.bool r.oT) := hro 7 _ rfl
      have p8 : w.cell? ⟨b, off + k * 11 + 8, none⟩ = some (.int .i64 r.oN) := hro 8 _ rfl
      have p9 : w.cell? ⟨b, off + k * 11 + 9, none⟩ = some (.bool r.nT) := hro 9 _ rfl
      have p10 : w.cell? ⟨b, off + k * 11 + 10, none⟩ = some (.int .i64 r.nN) := hro 10 _ rfl
      have q0 : w.cell? ⟨b', off' + k * 11, none⟩ = some (.int .i64 r.kind) := hro' 0 _ rfl
      have q1 : w.cell? ⟨b', off' + k * 11 + 1, none⟩ = some (.int .i64 r.tx) := hro' 1 _ rfl
      have q2 : w.cell? ⟨b', off' + k * 11 + 2, none⟩ = some (.int .u16 r.mask) := hro' 2 _ rfl
      have q3 : w.cell? ⟨b', off' + k * 11 + 3, none⟩ = some (.int .u8 r.k0) := hro' 3 _ rfl
      have q4 : w.cell? ⟨b', off' + k * 11 + 4, none⟩ = some (.int .u8 r.k1) := hro' 4 _ rfl
      have q5 : w.cell? ⟨b', off' + k * 11 + 5, none⟩ = some (.int .u8 r.k2) := hro' 5 _ rfl
      have q6 : w.cell? ⟨b', off' + k * 11 + 6, none⟩ = some (.int .u8 r.k3) := hro' 6 _ rfl
      have q7 : w.cell? ⟨b', off' + k * 11 + 7, none⟩ = some (.bool r.oT) := hro' 7 _ rfl
      have q8 : w.cell? ⟨b', off' + k * 11 + 8, none⟩ = some (.int .i64 r.oN) := hro' 8 _ rfl
      have q9 : w.cell? ⟨b', off' + k * 11 + 9, none⟩ = some (.bool r.nT) := hro' 9 _ rfl
      have q10 : w.cell? ⟨b', off' + k * 11 + 10, none⟩ = some (.int .i64 r.nN) := hro' 10 _ rfl
      clear hro hro' hkl
      go_wp2
      go_quiet (fail)
      go_wp2
      go_roundw
      case rel => exact ⟨k + 1, by omega, by go_num, Dr.of _⟩
      case measure => simp [intOf]; omega
    · obtain rfl : k = l := by omega
      go_wp2
      go_ret
      exact ⟨rfl, (Dr.of _).below _ (Nat.le_refl _)⟩

/-! ### several rows -/
theorem row_block {w : World} {base : Nat} {e : TypeId} {size : Nat} {v : Value} {n : Nat} {xs : List Value} (h : w.ownsRow base e size v n xs) {k : Nat} (hk : v.ownBlock = some k) : ∃ C fr, w.heap[k]? = some (.cells C e fr) := by
  rcases h.2 with ⟨rfl, _⟩ | ⟨g, cap, cur, rfl, _, hg, _⟩
  · cases hk
  · have e : g = k := by simpa [Value.ownBlock] using hk
    subst e
    exact ⟨cur, _, hg⟩
theorem rows_ne {w : World} {b1 b2 : Nat} {e1 e2 : TypeId} {s1 s2 : Nat} {v1 v2 : Value} {n1 n2 : Nat} {x1 x2 : List Value} (h : w.ownsRow b1 e1 s1 v1 n1 x1) (h' : w.ownsRow b2 e2 s2 v2 n2 x2) (hne : e1 ≠ e2) : v1.ownBlock = none ∨ v1.ownBlock ≠ v2.ownBlock := by
  cases hv : v1.ownBlock with
  | none => exact .inl rfl
  | some k =>
    right
    intro e
    obtain ⟨C, f, hC⟩ := row_block h hv
    obtain ⟨D, f', hD⟩ := row_block h' e.symm
    rw [hC] at hD
    injection hD with hD
    injection hD with _ hD _
    exact hne hD
def OwnsI (B : Nat) (w : World) (v : Value) (es : List Int) : Prop := w.ownsRow B 3 1 v es.length (es.map (Value.int .i64))
theorem OwnsI.below {B : Nat} {w w' : World} {v : Value} {es : List Int} (h : OwnsI B w v es) (hb : Below w.heap.size w w') : OwnsI B w' v es :=
  World.ownsRow.kept h (row := none) ⟨hb.os, hb.tape, hb.output, hb.size, fun j hj _ => hb.block j hj⟩ (by cases hv : v.ownBlock <;> simp)
theorem OwnsI.ints {B : Nat} {w : World} {v : Value} {es : List Int} (h : OwnsI B w v es) : ∃ A c, v = .slice A es.length c ∧ Ints .i64 w.heap.size w A es := ints_own h
/-- A record, bytes, a number appended: what else is one's own stays. -/
theorem wpList_appendRg {ops : Array Oper} {rest : List Oper} {o : Oper} {a : Act} {Q : Exit → Act → World → Prop} {W : World} (hgd : o.guard = none) (s x : Operand) (ho : o.op = .call { callee := .builtin .append, args := #[s, x], argTypes := #[22, 22] })
    (base : Nat) (v : Value) (rs : List RecD) (hs : a.eval s = v) (hown : OwnsR base W v rs) (r : RecD) (b c : Nat) (hx : a.eval x = .slice (some ⟨b, 0, none⟩) 1 c) (hb : RecO W b 0 r) (hl : rs.length ≤ 2000) (hbase : base ≤ W.heap.size) (w0 : World) (hbel : Below base w0 W)
    (hnn : v ≠ .slice none 0 0) (h : ∀ v' w', OwnsR base w' v' (rs ++ [r]) → v' ≠ .slice none 0 0 → W.grownBy w' v.ownBlock → Below base w0 w' → wpList Try.prog ops Q rest (a.put o.dst v') w') : wpList Try.prog ops Q (o :: rest) a W := by
  obtain ⟨i0, hi, hz0, hz1, hz2⟩ := info_parts info_rec
  refine wpList_append_own W hgd s x 22 ho base 32 i0 _ 11 56 Try.underlying22 hi hz0 hz1 hz2 rfl (by decide) v rs.length _ hs hown ⟨b, 0, none⟩ 1 c (recC r) hx rfl (fun j u hu => ?_) (recC_one r) (by simp only [maxLen]; omega) (by omega) hbase (fun v' w' hown' hgrow hiff => h v' w' ?_ (fun e => hnn (hiff.1 e).1) hgrow (hbel.grown hgrow hbase (fun k e => (World.ownsRow.lt hown k e).1)))
  · rw [Go.WideShapes.add_plain]
    exact hb j u hu
  · unfold OwnsR
    rw [List.length_append, List.flatMap_append]
    simpa using hown'
theorem wpList_appendBg {ops : Array Oper} {rest : List Oper} {o : Oper} {a : Act} {Q : Exit → Act → World → Prop} {W : World} (hgd : o.guard = none) (s x : Operand) (ho : o.op = .call { callee := .builtin .append, args := #[s, x], argTypes := #[23, 23] })
    (base : Nat) (v : Value) (zs : List Int) (hs : a.eval s = v) (hown : Owns base W v zs) (A' : Option Addr) (ts : List Int) (l' c' : Nat) (hx : a.eval x = .slice A' l' c') (hll : ts.length = l') (h0 : 0 < l') (g : Good A' c' ts W) (hl : zs.length + ts.length ≤ 10000) (hbase : base ≤ W.heap.size) (w0 : World) (hb : Below base w0 W)
    (hnn : v ≠ .slice none 0 0) (h : ∀ v' w', Owns base w' v' (zs ++ ts) → v' ≠ .slice none 0 0 → W.grownBy w' v.ownBlock → Below base w0 w' → wpList Try.prog ops Q rest (a.put o.dst v') w') : wpList Try.prog ops Q (o :: rest) a W := by
  obtain ⟨i0, hi, hz0, hz1, hz2⟩ := info_parts info_u8
  obtain ⟨b, off, rfl⟩ := g.some (by omega)
  refine wpList_append_own W hgd s x 23 ho base 5 i0 (.int .u8 0) 1 1 Try.underlying23 hi hz0 hz1 hz2 rfl (by decide) v zs.length _ hs hown ⟨b, off, none⟩ l' c' (ts.map (Value.int .u8)) hx (by simp [hll]) (cells_of_good rfl g) (one_u8 ts) (by simp only [maxLen]; omega) (by omega) hbase (fun v' w' hown' hgrow hiff => h v' w' ?_ (fun e => hnn (hiff.1 e).1) hgrow (hb.grown hgrow hbase (fun k e => (World.ownsRow.lt hown k e).1)))
  unfold Owns
  rw [List.length_append, List.map_append, hll]
  exact hown'
theorem wpList_appendIg {ops : Array Oper} {rest : List Oper} {o : Oper} {a : Act} {Q : Exit → Act → World → Prop} {W : World} (hgd : o.guard = none) (s x : Operand) (ho : o.op = .call { callee := .builtin .append, args := #[s, x], argTypes := #[44, 44] })
    (base : Nat) (v : Value) (es : List Int) (hs : a.eval s = v) (hown : OwnsI base W v es) (n : Int) (b c : Nat) (hx : a.eval x = .slice (some ⟨b, 0, none⟩) 1 c) (hc : W.cell? ⟨b, 0, none⟩ = some (.int .i64 n)) (hl : es.length ≤ 2000) (hbase : base ≤ W.heap.size) (w0 : World) (hb : Below base w0 W)
    (h : ∀ v' w', OwnsI base w' v' (es ++ [n]) → W.grownBy w' v.ownBlock → Below base w0 w' → wpList Try.prog ops Q rest (a.put o.dst v') w') : wpList Try.prog ops Q (o :: rest) a W := by
  obtain ⟨i0, hi, hz0, hz1, hz2⟩ := info_parts info_int
  refine wpList_append_own W hgd s x 44 ho base 3 i0 (.int .i64 0) 1 8 Try.underlying44 hi hz0 hz1 hz2 rfl (by decide) v es.length _ hs hown ⟨b, 0, none⟩ 1 c [.int .i64 n] hx rfl (fun j u hu => ?_) (by simp [Value.oneCell']) (by simp only [maxLen]; omega) (by omega) hbase (fun v' w' hown' hgrow _ => h v' w' ?_ hgrow (hb.grown hgrow hbase (fun k e => (World.ownsRow.lt hown k e).1)))
  · match j, hu with
    | 0, hu =>
      simp at hu
      subst hu
      rw [Go.WideShapes.add_plain]
      exact hc
  · unfold OwnsI
    rw [List.length_append, List.map_append]
    exact hown'

/-! ### RecBack's three rows -/
def endsL (L : List RecD) : List Int := (List.range (L.length + 1)).map fun j => ((endsN L j : Nat) : Int)
theorem endsL_length (L : List RecD) : (endsL L).length = L.length + 1 := by simp [endsL]
theorem endsL_at (L : List RecD) (j : Nat) (h : j ≤ L.length) : (endsL L)[j]?.getD 0 = ((endsN L j : Nat) : Int) := by
  have hj : j < L.length + 1 := by omega
  simp [endsL, hj]
theorem endsL_snoc (L : List RecD) (r : RecD) : endsL (L ++ [r]) = endsL L ++ [(((joinL L).length + (encL r).length : Nat) : Int)] := by
  unfold endsL
  rw [List.length_append, List.length_singleton, List.range_succ, List.map_append]
  congr 1
  · apply List.map_congr_left
    intro j hj
    have hj' : j ≤ L.length := by have := List.mem_range.1 hj; omega
    unfold endsN
    rw [List.take_append_of_le_length hj']
  · simp only [List.map_cons, List.map_nil]
    congr 2
    unfold endsN
    rw [List.take_of_length_le (by simp), joinL_snoc, List.length_append]
structure Bk (B : Nat) (w0 W : World) (v5 v6 v7 : Value) (L : List RecD) : Prop where
  l : OwnsR B W v5 L
  e : OwnsI B W v6 (endsL L)
  a : Owns B W v7 (joinL L)
  b : Below B w0 W
  n5 : v5 ≠ .slice none 0 0
  n7 : v7 ≠ .slice none 0 0
theorem OwnsR.there {B : Nat} {w : World} {v : Value} {rs : List RecD} (h : OwnsR B w v rs) (hn : v ≠ .slice none 0 0) : ∃ g c, v = .slice (some ⟨g, 0, none⟩) rs.length c ∧ GoodR (some ⟨g, 0, none⟩) c rs w := by
  obtain ⟨A, c, rfl, g⟩ := h.good
  rcases h.2 with ⟨e, _⟩ | ⟨g', cap, cur, e, _⟩
  · exact absurd e hn
  · injection e with e1 e2 e3
    subst e1
    exact ⟨g', c, rfl, g⟩
theorem Owns.there {B : Nat} {w : World} {v : Value} {zs : List Int} (h : Owns B w v zs) (hn : v ≠ .slice none 0 0) : ∃ g c, v = .slice (some ⟨g, 0, none⟩) zs.length c ∧ Good (some ⟨g, 0, none⟩) c zs w := by
  obtain ⟨A, c, rfl, g⟩ := h.good
  rcases h.2 with ⟨e, _⟩ | ⟨g', cap, cur, e, _⟩
  · exact absurd e hn
  · injection e with e1 e2 e3
    subst e1
    exact ⟨g', c, rfl, g⟩
theorem Bk.below {B : Nat} {w0 W W' : World} {v5 v6 v7 : Value} {L : List RecD} (h : Bk B w0 W v5 v6 v7 L) (hb : Below W.heap.size W W') (hB : B ≤ w0.heap.size) : Bk B w0 W' v5 v6 v7 L := ⟨h.l.below hb, h.e.below hb, h.a.below hb, below_more h.b hb hB, h.n5, h.n7⟩
theorem heap3 (w : World) (o1 o2 o3 : Obj) : (((w.alloc o1).alloc o2).alloc o3).heap[w.heap.size]? = some o1 ∧ (((w.alloc o1).alloc o2).alloc o3).heap[w.heap.size + 1]? = some o2 ∧ (((w.alloc o1).alloc o2).alloc o3).heap[w.heap.size + 1 + 1]? = some o3 := by
  refine ⟨?_, ?_, ?_⟩
  · rw [Below.heap_alloc _ _ _ (by simp; omega), Below.heap_alloc _ _ _ (by simp), heap_alloc_new]
  · rw [Below.heap_alloc _ _ _ (by simp), heap2n]
  · have := heap_alloc_new ((w.alloc o1).alloc o2) o3
    rw [show ((w.alloc o1).alloc o2).heap.size = w.heap.size + 1 + 1 by simp] at this
    exact this
theorem bk_start (w w0 : World) (h : Below w.heap.size w w0) : Bk w.heap.size w (((w0.alloc (.cells #[] 32)).alloc (.cells #[.int .i64 0] 3)).alloc (.cells #[] 5)) (.slice (some ⟨w0.heap.size, 0, none⟩) 0 0) (.slice (some ⟨w0.heap.size + 1, 0, none⟩) 1 1) (.slice (some ⟨w0.heap.size + 1 + 1, 0, none⟩) 0 0) [] := by
  obtain ⟨h1, h2, h3⟩ := heap3 w0 (.cells #[] 32) (.cells #[.int .i64 0] 3) (.cells #[] 5)
  have hs := h.size
  refine ⟨⟨rfl, .inr ⟨w0.heap.size, 0, #[], rfl, hs, h1, Nat.le_refl _, by simp, rfl, rfl⟩⟩, ⟨rfl, .inr ⟨w0.heap.size + 1, 1, #[.int .i64 0], rfl, by omega, h2, Nat.le_refl _, by simp [maxLen], rfl, rfl⟩⟩, ⟨rfl, .inr ⟨w0.heap.size + 1 + 1, 0, #[], rfl, by omega, h3, Nat.le_refl _, by simp, rfl, rfl⟩⟩, ?_, (fun e => by cases e), (fun e => by cases e)⟩
  exact ((h.alloc hs _).alloc (by simp; omega) _).alloc (by simp; omega) _
end Go.Proofs.Ytlohogcddelekaa
