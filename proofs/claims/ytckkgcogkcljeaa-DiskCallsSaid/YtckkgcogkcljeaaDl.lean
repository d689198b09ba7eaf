/- Laws for walks over rows of many cells, in which the world behind a step is a letter: alloc, store, clear of a map. Nothing of one layer but the disk's frame word Moves. -/
import Derived.Test.YtckkgcogkcljeaaDc
import Derived.Deep.WholeRow
namespace Go.Proofs.Ytckkgcogkcljeaa
open Go.RowKit Go.Deep Go.Maps

theorem there_of_cells {w : World} {b : Nat} {C : Array Value} {t : TypeId} (hb : w.heap[b]? = some (.cells C t)) (n : Nat) (hn : n ≤ C.size) : w.there b 0 n := fun j hj => by
  have hc : w.cell? ⟨b, 0 + j, none⟩ = C[0 + j]? := cell_of_row w b (0 + j) C t _ hb
  refine ⟨by rw [hc]; simp; omega, ?_⟩
  simp [World.frozen?, hb]
/-- A new variable of many cells. -/
theorem wpList_allocT {P : Program} {ops : Array Oper} {rest : List Oper} {o : Oper} {a : Act} {Q : Exit → Act → World → Prop} {W : World} (hgd : o.guard = none) (ty : TypeId) (ho : o.op = .alloc ty) (Z : Array Value) (n : Nat) (hZ : Z.size = n)
    (hz : (P.info? ty).map (fun i => (i.zero, i.size)) = some (some (.agg Z), n))
    (h : ∀ W1 : World, W1.heap.size = W.heap.size + 1 → Below W.heap.size W W1 → W1.there W.heap.size 0 n → wpList P ops Q rest (a.put o.dst (.pointer (some ⟨W.heap.size, 0, none⟩))) W1) : wpList P ops Q (o :: rest) a W := by
  obtain ⟨z1, _⟩ := zero_of_info hz
  refine wpList_plain hgd fun K hK => ?_
  unfold Oper.wp
  simp [execOp, ho, Instr.alloc, z1 W, newVar, Value.cells, Result.andThen]
  refine hK _ _ (h _ (by simp) ((Below.refl _ _).alloc (Nat.le_refl _) _) ?_)
  exact there_of_cells (heap_alloc_new W _) n (by omega)
/-- A store of many cells. -/
theorem wpList_storeT {P : Program} {ops : Array Oper} {rest : List Oper} {o : Oper} {a : Act} {Q : Exit → Act → World → Prop} {W : World} (hgd : o.guard = none) (ty : TypeId) (x y : Operand) (ho : o.op = .store ty x y)
    (b f : Nat) (cs : List Value) (hx : a.eval x = .pointer (some ⟨b, f, none⟩)) (hy : a.eval y = .agg cs.toArray) (ht : W.there b f cs.length) (hi : (P.info? ty).map (·.size) = some cs.length) (h1 : ∀ v ∈ cs, v.oneCell' = true)
    (h : ∀ W2 : World, Hid (W2 = W.setCells b f cs) → wpList P ops Q rest (a.put o.dst undef) W2) : wpList P ops Q (o :: rest) a W :=
  wpList_store_mid hgd ty x y ho b f cs.toArray hx hy (by simpa using ht) (by simpa using hi) (all_oneCell_toArray h1) (h _ (Lib.hid rfl))

theorem moves_store {W W2 : World} {b f : Nat} {cs : List Value} (h : Hid (W2 = W.setCells b f cs)) : Moves (· = b) W W2 := by
  rw [h.out]; exact moves_setCells (· = b) b rfl cs f W
theorem size_store {W W2 : World} {b f : Nat} {cs : List Value} (h : Hid (W2 = W.setCells b f cs)) : W2.heap.size = W.heap.size := by
  have e := h.out
  clear h
  subst e
  induction cs generalizing f W with
  | nil => rfl
  | cons v cs ih =>
    show ((W.setCell ⟨b, f, none⟩ v).setCells b (f + 1) cs).heap.size = _
    rw [ih]
    simp
theorem below_store {W W2 : World} {b f B : Nat} {cs : List Value} (h : Hid (W2 = W.setCells b f cs)) (hB : B ≤ W.heap.size) (hb : B ≤ b) : Below B W W2 := (moves_store h).below hB (fun _ e => by subst e; exact hb)
theorem range_store {W W2 : World} {b f : Nat} {cs : List Value} (h : Hid (W2 = W.setCells b f cs)) (ht : W.there b f cs.length) : W2.rangeAt b f cs := by
  rw [h.out]; exact World.rangeAt_setCells_same W b f cs ht
theorem there_store {W W2 : World} {b f b' f' n : Nat} {cs : List Value} (h : Hid (W2 = W.setCells b f cs)) (ht : W.there b' f' n) : W2.there b' f' n := by
  rw [h.out]; exact World.there_setCells ht b f cs
theorem range_store_apart {W W2 : World} {b f b' f' : Nat} {cs cs' : List Value} (h : Hid (W2 = W.setCells b f cs)) (hr : W.rangeAt b' f' cs') (hap : b' ≠ b ∨ f' + cs'.length ≤ f ∨ f + cs.length ≤ f') : W2.rangeAt b' f' cs' := by
  rw [h.out]; exact World.rangeAt_setCells_apart hr b f cs hap

theorem info_sec2 : (Try.prog.info? 61).map (fun i => (i.zero, i.size)) = some (some (.agg (Array.replicate 32 (Value.int .u8 0))), 32) := by kernel_rfl
theorem size_sec : (Try.prog.info? 61).map (·.size) = some 32 := by kernel_rfl
theorem zero_sec (w : World) : (zeroValue 61).run Try.prog w = .ok (.agg (secC zeros32).toArray) w := by
  have := (zero_of_info info_sec2).1 w
  rw [this]; rfl
theorem intK : Keyed Try.prog 3 := int_keyed Try.underlying3
theorem keyI (i : Nat) (h : i ≤ 512) : keyOf Try.prog 3 (.int .i64 i) = some (keyL i) := keyOf_int_mk Try.underlying3 (WalkArith.wf_i64 (by omega))

/-- 'v, ok := m[k]' on sectors: the value's shape written out. -/
theorem wpList_lookup_sec {ops : Array Oper} {rest : List Oper} {o : Oper} {a : Act} {Q : Exit → Act → World → Prop} {W : World} (hg : o.guard = none) (m x : Operand) (hop : o.op = Op.lookup 55 m x true)
    (mb n i : Nat) (ws : List (Nat × List Int)) (hm : a.eval m = .map (some mb)) (hown : W.ownsMap Try.prog 3 secR mb n (mapOf ws)) (hx : a.eval x = .int .i64 i) (hi : i ≤ 512)
    (hK : ∀ zs, zs = (lastIn i ws).getD zeros32 → wpList Try.prog ops Q rest (a.put o.dst (.tuple #[.agg (secC zs).toArray, .bool (lastIn i ws).isSome])) W) : wpList Try.prog ops Q (o :: rest) a W :=
  wpList_lookup_own_ok W hg m x 55 hop 3 61 intK Try.underlying55 secR (zero_sec W) (secD zeros32) [] (secR_mk zeros32) mb n (mapOf ws) hm hown _ (keyL i) hx (keyI i hi) (fun v ps hv => by
    rw [(mapOf_says i ws (secD zeros32)).1]
    rw [(mapOf_says i ws (secD zeros32)).2] at hv
    have e : ((lastIn i ws).map secD).getD (secD zeros32) = secD ((lastIn i ws).getD zeros32) := by cases lastIn i ws <;> rfl
    rw [e] at hv
    rw [secR_inv hv]
    exact hK _ rfl)
theorem wpList_lookup_none {ops : Array Oper} {rest : List Oper} {o : Oper} {a : Act} {Q : Exit → Act → World → Prop} {W : World} (hg : o.guard = none) (m x : Operand) (hop : o.op = Op.lookup 55 m x true)
    (mb n i : Nat) (ws : List (Nat × List Int)) (hm : a.eval m = .map (some mb)) (hown : W.ownsMap Try.prog 3 secR mb n (mapOf ws)) (hx : a.eval x = .int .i64 i) (hi : i ≤ 512) (hl : lastIn i ws = none)
    (hK : ∀ zs : List Int, Hid (zs.length = 32) → wpList Try.prog ops Q rest (a.put o.dst (.tuple #[.agg (secC zs).toArray, .bool false])) W) : wpList Try.prog ops Q (o :: rest) a W :=
  wpList_lookup_sec hg m x hop mb n i ws hm hown hx hi (by
    rw [hl]
    intro zs hz
    subst hz
    exact hK _ (Lib.hid rfl))
/-- 'clear(m)'. -/
theorem wpList_clear_own {P : Program} {ops : Array Oper} {rest : List Oper} {o : Oper} {a : Act} {Q : Exit → Act → World → Prop} {W : World} (hg : o.guard = none) (m : Operand) (t : TypeId) (hop : o.op = Op.call { callee := Callee.builtin Builtin.clear, args := #[m], argTypes := #[t] })
    (k e : TypeId) (ht : P.underlying t = some (.map k e)) (R : Value → Option (DataW Unit × List MemPlace)) (mb n : Nat) (D : DataW Unit) (hm : a.eval m = .map (some mb)) (hown : W.ownsMap P k R mb n D)
    (hK : ∀ W2 : World, W2.ownsMap P k R mb 0 (.map []) → Moves (· = mb) W W2 → wpList P ops Q rest (a.put o.dst (.tuple #[])) W2) : wpList P ops Q (o :: rest) a W := by
  obtain ⟨es, clock, hb, F, hs, rfl⟩ := hown
  have hrun : (Builtin.clear_ #[t] o.type #[.map (some mb)]).run P W = .ok (.tuple #[]) (ChangeMaps.setBlock W mb (.map #[] clock)) := by
    simp [Builtin.clear_, run_underlying ht, MapKept.run_getObj_map hb, MapKept.run_setObj_map _ hb, Result.andThen, ChangeMaps.setBlock]
  refine wpList_plain hg fun K' hK' => ?_
  unfold Oper.wp
  simp [execOp, hop, resolve, invoke, builtin, hm, hrun, Result.andThen]
  refine hK' _ _ (hK _ ⟨#[], clock, ChangeMaps.heap_setBlock_same hb _, ⟨by simp, MapKept.stamped_empty clock, by simp⟩, Nat.le_refl _, rfl⟩ ⟨rfl, rfl, rfl, by simp [ChangeMaps.setBlock], fun i _ hi => ChangeMaps.heap_setBlock_other hb _ hi⟩)
end Go.Proofs.Ytckkgcogkcljeaa
