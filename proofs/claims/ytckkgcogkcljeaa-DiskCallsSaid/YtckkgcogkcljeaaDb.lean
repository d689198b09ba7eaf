/- Memory that more than one party writes: Moves F (all but the blocks F, and new ones, is as it was); a disk of the program in memory (DiskAt). -/
import Derived.Test.YtckkgcogkcljeaaGc
import Derived.Test.YtckkgcogkcljeaaDa
import Derived.Deep.MidRow
import Derived.Deep.AppendLies
import Derived.Maps.OwnSet
namespace Go.Proofs.Ytckkgcogkcljeaa
open Go.RowKit Go.Deep Go.Maps

/-- w' is w but for the blocks F, and new ones. -/
structure Moves (F : Nat → Prop) (w w' : World) : Prop where
  os : w'.os = w.os
  tape : w'.tape = w.tape
  output : w'.output = w.output
  size : w.heap.size ≤ w'.heap.size
  block : ∀ k, k < w.heap.size → ¬ F k → w'.heap[k]? = w.heap[k]?
theorem Moves.refl (F : Nat → Prop) (w : World) : Moves F w w := ⟨rfl, rfl, rfl, Nat.le_refl _, fun _ _ _ => rfl⟩
theorem Moves.below {F : Nat → Prop} {w w' : World} {B : Nat} (h : Moves F w w') (hB : B ≤ w.heap.size) (hF : ∀ k, F k → B ≤ k) : Below B w w' :=
  ⟨h.os, h.tape, h.output, h.size, fun k hk => h.block k (by omega) (fun e => by have := hF k e; omega)⟩
theorem moves_of_below {F : Nat → Prop} {w w' : World} (h : Below w.heap.size w w') : Moves F w w' := ⟨h.os, h.tape, h.output, h.size, fun k hk _ => h.block k hk⟩
theorem moves_of_grown {F : Nat → Prop} {w w' : World} {row : Option Nat} (h : w.grownBy w' row) (hF : ∀ k, row = some k → F k) : Moves F w w' :=
  ⟨h.os, h.tape, h.output, h.size, fun k hk hn => h.block k hk (fun e => hn (hF k e.symm))⟩
theorem Moves.trans {F F' : Nat → Prop} {a b c : World} (h : Moves F a b) (k : Moves F' b c) (hF : ∀ i, F' i → F i ∨ a.heap.size ≤ i) : Moves F a c :=
  ⟨k.os.trans h.os, k.tape.trans h.tape, k.output.trans h.output, Nat.le_trans h.size k.size, fun i hi hn => (k.block i (Nat.lt_of_lt_of_le hi h.size) (fun e => (hF i e).elim hn (fun g => by omega))).trans (h.block i hi hn)⟩
theorem Moves.mono {F F' : Nat → Prop} {a b : World} (h : Moves F a b) (hF : ∀ i, F i → F' i) : Moves F' a b := ⟨h.os, h.tape, h.output, h.size, fun k hk hn => h.block k hk (fun e => hn (hF k e))⟩
theorem moves_alloc (F : Nat → Prop) (w : World) (o : Obj) : Moves F w (w.alloc o) := moves_of_below ((Below.refl _ _).alloc (Nat.le_refl _) o)
theorem moves_drewN (F : Nat → Prop) (w : World) (n : Nat) : Moves F w (w.drewN n) := moves_of_below (below_drewN (Below.refl _ _) n)
theorem moves_setCell (F : Nat → Prop) (w : World) (a : Addr) (v : Value) (h : F a.block) : Moves F w (w.setCell a v) := by
  have hb := (Below.refl 0 w).setCell (Nat.zero_le a.block) v
  exact ⟨hb.os, hb.tape, hb.output, hb.size, fun k _ hn => RowKit.Below.heap_setCell _ _ _ _ (fun e => hn (e ▸ h))⟩
theorem moves_setCells (F : Nat → Prop) (b : Nat) (h : F b) : ∀ (vs : List Value) (o : Nat) (w : World), Moves F w (w.setCells b o vs)
  | [], _, w => Moves.refl F w
  | v :: vs, o, w => (moves_setCell F w ⟨b, o, none⟩ v h).trans (moves_setCells F b h vs (o + 1) _) (fun _ hi => .inl hi)

/-- The blocks that are F, or new between w and w'. -/
def grow (F : Nat → Prop) (w w' : World) (k : Nat) : Prop := F k ∨ (w.heap.size ≤ k ∧ k < w'.heap.size)

/-! ### a sector's bytes -/
def secC (zs : List Int) : List Value := zs.map (Value.int .u8)
def wrC (p : Nat × List Int) : List Value := Value.int .i64 p.1 :: secC p.2
theorem secC_len (zs : List Int) : (secC zs).length = zs.length := by simp [secC]
theorem secC_one (zs : List Int) : ∀ v ∈ secC zs, v.oneCell' = true := by
  intro v hv
  simp only [secC, List.mem_map] at hv
  obtain ⟨z, _, rfl⟩ := hv
  rfl
theorem wrC_one (p : Nat × List Int) : ∀ v ∈ wrC p, v.oneCell' = true := by
  intro v hv
  rcases List.mem_cons.1 hv with rfl | hv
  · rfl
  · exact secC_one _ v hv
def litOf : Value → DataW Unit
  | .int k a => .lit (.int k a)
  | _ => .nil
def secR (v : Value) : Option (DataW Unit × List MemPlace) := match v with
  | .agg cs => some (.agg (cs.toList.map litOf), [])
  | _ => none
def secD (zs : List Int) : DataW Unit := .agg (zs.map fun z => .lit (.int .u8 z))
theorem secR_mk (zs : List Int) : secR (.agg (secC zs).toArray) = some (secD zs, []) := by
  simp [secR, secC, secD, litOf, Function.comp_def]
theorem litOf_inv {v : Value} {z : Int} (h : litOf v = .lit (.int .u8 z)) : v = .int .u8 z := by
  cases v <;> simp [litOf] at h
  obtain ⟨rfl, rfl⟩ := h
  rfl
theorem map_litOf_inv : ∀ (l : List Value) (zs : List Int), l.map litOf = zs.map (fun z => DataW.lit (.int .u8 z)) → l = secC zs
  | [], [], _ => rfl
  | [], _ :: _, h => by simp at h
  | _ :: _, [], h => by simp at h
  | v :: l, z :: zs, h => by
    simp only [List.map_cons, List.cons.injEq] at h
    rw [litOf_inv h.1, map_litOf_inv l zs h.2]
    rfl
theorem secR_inv {v : Value} {zs : List Int} {ps : List MemPlace} (h : secR v = some (secD zs, ps)) : v = .agg (secC zs).toArray := by
  cases v <;> simp [secR, secD] at h
  rename_i cs
  have := map_litOf_inv cs.toList zs h.1
  rw [← this]
def keyL (i : Nat) : Lit := .int .i64 i
def mapOf (ws : List (Nat × List Int)) : DataW Unit := ws.foldl (fun D p => D.put (keyL p.1) (secD p.2)) (.map [])
theorem mapOf_snoc (ws : List (Nat × List Int)) (p : Nat × List Int) : mapOf (ws ++ [p]) = (mapOf ws).put (keyL p.1) (secD p.2) := by simp [mapOf, List.foldl_append]
theorem isKeyL (i : Nat) : WideAt.IsKeyLit (keyL i) := trivial
theorem keyL_ne {i j : Nat} (h : i ≠ j) : keyL i ≠ keyL j := by
  intro e
  simp only [keyL, Lit.int.injEq, true_and] at e
  omega
theorem mapOf_isMap (ws : List (Nat × List Int)) : IsMap (mapOf ws) := by
  suffices h : ∀ D : DataW Unit, IsMap D → IsMap (ws.foldl (fun D p => D.put (keyL p.1) (secD p.2)) D) from h _ isMap_empty
  induction ws with
  | nil => intro D h; exact h
  | cons p ws ih => intro D h; exact ih _ (h.put _ _)
theorem mapOf_says (i : Nat) (ws : List (Nat × List Int)) (z : DataW Unit) : Maps.has (mapOf ws) (keyL i) = (lastIn i ws).isSome ∧ (mapOf ws).atKey (keyL i) z = ((lastIn i ws).map secD).getD z := by
  suffices h : ∀ rs : List (Nat × List Int), Maps.has (mapOf rs.reverse) (keyL i) = (lastIn i rs.reverse).isSome ∧ (mapOf rs.reverse).atKey (keyL i) z = ((lastIn i rs.reverse).map secD).getD z by
    have := h ws.reverse
    rwa [List.reverse_reverse] at this
  intro rs
  induction rs with
  | nil => exact ⟨rfl, rfl⟩
  | cons p rs ih =>
    rw [List.reverse_cons, mapOf_snoc, lastIn_snoc]
    by_cases h : p.1 = i
    · subst h
      rw [if_pos rfl, has_put_same (mapOf_isMap _) (isKeyL _), atKey_put_same (mapOf_isMap _) (isKeyL _)]
      exact ⟨rfl, rfl⟩
    · rw [if_neg h, has_put_other (keyL_ne (Ne.symm h)), atKey_put_other (keyL_ne (Ne.symm h))]
      exact ih

/-! ### lists of cells, part by part -/
theorem flat_at {α β : Type} (f : α → List β) (s : Nat) : ∀ (xs : List α), (∀ x ∈ xs, (f x).length = s) → ∀ (i : Nat) (x : α), xs[i]? = some x → ∀ j, j < s → (xs.flatMap f)[i * s + j]? = (f x)[j]?
  | [], _, i, x, hx, _, _ => by simp at hx
  | y :: xs, h, 0, x, hx, j, hj => by
    simp at hx; subst hx
    have := h y List.mem_cons_self
    rw [List.flatMap_cons, Nat.zero_mul, Nat.zero_add, List.getElem?_append_left (by omega)]
  | y :: xs, h, i + 1, x, hx, j, hj => by
    have h1 := h y List.mem_cons_self
    have e : (i + 1) * s + j = s + (i * s + j) := by rw [Nat.succ_mul]; omega
    rw [List.flatMap_cons, e, ← h1, List.getElem?_append_right (by omega), Nat.add_sub_cancel_left, h1]
    exact flat_at f s xs (fun z hz => h z (List.mem_cons_of_mem _ hz)) i x (by simpa using hx) j hj
theorem flat_length {α β : Type} (f : α → List β) (s : Nat) (xs : List α) (h : ∀ x ∈ xs, (f x).length = s) : (xs.flatMap f).length = xs.length * s := by
  induction xs with
  | nil => simp
  | cons x xs ih =>
    rw [List.flatMap_cons, List.length_append, ih (fun z hz => h z (List.mem_cons_of_mem _ hz)), h x List.mem_cons_self, List.length_cons, Nat.succ_mul]
    omega

/-! ### a disk in memory -/
def Secs (w : World) (lb : Nat) (s : List (List Int)) : Prop := ∀ i, i < s.length → w.rangeAt lb (i * 32) (secC (secAt s i)) ∧ w.there lb (i * 32) 32
structure DiskIn (w : World) (db lb mb : Nat) (cv : Value) (n : Nat) (st : St) : Prop where
  c0 : w.cell? ⟨db, 0, none⟩ = some (.slice (some ⟨lb, 0, none⟩) n n)
  c1 : w.cell? ⟨db, 1, none⟩ = some cv
  c2 : w.cell? ⟨db, 2, none⟩ = some (.map (some mb))
  fz : w.frozen? ⟨db, 1, none⟩ = false
  secs : Secs w lb st.safe
  row : w.ownsRow 0 63 33 cv st.cache.length (st.cache.flatMap wrC)
  map : w.ownsMap Try.prog 3 secR mb st.cache.length (mapOf st.cache)
  wf : Wf n st
  n1 : 1 ≤ n
  n2 : n ≤ 512
  lt0 : db < w.heap.size
  lt1 : lb < w.heap.size
  ne1 : db ≠ lb
  ne2 : db ≠ mb
  ne3 : lb ≠ mb
  ne4 : cv.ownBlock ≠ some db
  ne5 : cv.ownBlock ≠ some lb
  ne6 : cv.ownBlock ≠ some mb

theorem rangeAt_of_block' {w w' : World} {b o : Nat} {cs : List Value} (h : w'.heap[b]? = w.heap[b]?) (hr : w.rangeAt b o cs) : w'.rangeAt b o cs := fun j v hv => (World.cell?_of_block (a := ⟨b, o + j, none⟩) h).trans (hr j v hv)
theorem there_of_block' {w w' : World} {b o n : Nat} (h : w'.heap[b]? = w.heap[b]?) (hr : w.there b o n) : w'.there b o n := fun j hj => by
  rw [World.cell?_of_block (a := ⟨b, o + j, none⟩) h, World.frozen?_of_block (a := ⟨b, o + j, none⟩) h]
  exact hr j hj
theorem Secs.kept {w w' : World} {lb : Nat} {s : List (List Int)} (h : Secs w lb s) (hb : w'.heap[lb]? = w.heap[lb]?) : Secs w' lb s := fun i hi => ⟨rangeAt_of_block' hb (h i hi).1, there_of_block' hb (h i hi).2⟩
theorem row_kept {w w' : World} {base : Nat} {e : TypeId} {size : Nat} {v : Value} {n : Nat} {xs : List Value} (h : w.ownsRow base e size v n xs) (hb : ∀ k, v.ownBlock = some k → w'.heap[k]? = w.heap[k]?) : w'.ownsRow base e size v n xs := by
  refine ⟨h.1, ?_⟩
  rcases h.2 with h0 | ⟨g, cap, cur, rfl, h2, h3, h4⟩
  · exact .inl h0
  · exact .inr ⟨g, cap, cur, rfl, h2, (hb g rfl).trans h3, h4⟩
theorem map_kept {w w' : World} {P : Program} {k : TypeId} {R : Value → Option (DataW Unit × List MemPlace)} {b n : Nat} {D : DataW Unit} (h : w.ownsMap P k R b n D) (hb : w'.heap[b]? = w.heap[b]?) : w'.ownsMap P k R b n D := by
  obtain ⟨es, clock, h1, h2⟩ := h
  exact ⟨es, clock, hb.trans h1, h2⟩
theorem DiskIn.kept {w w' : World} {db lb mb : Nat} {cv : Value} {n : Nat} {st : St} (h : DiskIn w db lb mb cv n st) (hs : w.heap.size ≤ w'.heap.size)
    (h0 : w'.heap[db]? = w.heap[db]?) (h1 : w'.heap[lb]? = w.heap[lb]?) (h2 : w'.heap[mb]? = w.heap[mb]?) (h3 : ∀ k, cv.ownBlock = some k → w'.heap[k]? = w.heap[k]?) : DiskIn w' db lb mb cv n st :=
  { c0 := (World.cell?_of_block (a := ⟨db, 0, none⟩) h0).trans h.c0, c1 := (World.cell?_of_block (a := ⟨db, 1, none⟩) h0).trans h.c1, c2 := (World.cell?_of_block (a := ⟨db, 2, none⟩) h0).trans h.c2
    fz := (World.frozen?_of_block (a := ⟨db, 1, none⟩) h0).trans h.fz, secs := h.secs.kept h1, row := row_kept h.row h3, map := map_kept h.map h2, wf := h.wf, n1 := h.n1, n2 := h.n2
    lt0 := Nat.lt_of_lt_of_le h.lt0 hs, lt1 := Nat.lt_of_lt_of_le h.lt1 hs, ne1 := h.ne1, ne2 := h.ne2, ne3 := h.ne3, ne4 := h.ne4, ne5 := h.ne5, ne6 := h.ne6 }
theorem DiskIn.below {w w' : World} {db lb mb : Nat} {cv : Value} {n : Nat} {st : St} (h : DiskIn w db lb mb cv n st) (hb : Below w.heap.size w w') : DiskIn w' db lb mb cv n st :=
  h.kept hb.size (hb.block _ h.lt0) (hb.block _ h.lt1) (hb.block _ h.map.lt) (fun k hk => hb.block k (h.row.lt k hk).2)

/-- A disk at db, all of whose blocks are F. -/
def DiskAt (w : World) (F : Nat → Prop) (db n : Nat) (st : St) : Prop := ∃ lb mb cv, DiskIn w db lb mb cv n st ∧ F db ∧ F lb ∧ F mb ∧ (∀ k, cv.ownBlock = some k → F k) ∧ ∀ k, F k → k < w.heap.size
theorem DiskAt.lt {w : World} {F : Nat → Prop} {db n : Nat} {st : St} (h : DiskAt w F db n st) : ∀ k, F k → k < w.heap.size := by
  obtain ⟨_, _, _, _, _, _, _, _, h⟩ := h; exact h
theorem DiskAt.wf {w : World} {F : Nat → Prop} {db n : Nat} {st : St} (h : DiskAt w F db n st) : Wf n st := by
  obtain ⟨_, _, _, h, _⟩ := h; exact h.wf
theorem DiskAt.n2 {w : World} {F : Nat → Prop} {db n : Nat} {st : St} (h : DiskAt w F db n st) : 1 ≤ n ∧ n ≤ 512 := by
  obtain ⟨_, _, _, h, _⟩ := h; exact ⟨h.n1, h.n2⟩
theorem DiskAt.moves {w w' : World} {F G : Nat → Prop} {db n : Nat} {st : St} (h : DiskAt w F db n st) (hm : Moves G w w') (hd : ∀ k, F k → ¬ G k) : DiskAt w' F db n st := by
  obtain ⟨lb, mb, cv, h, f0, f1, f2, f3, f4⟩ := h
  have hk : ∀ k, F k → w'.heap[k]? = w.heap[k]? := fun k hk => hm.block k (f4 k hk) (hd k hk)
  exact ⟨lb, mb, cv, h.kept hm.size (hk _ f0) (hk _ f1) (hk _ f2) (fun k e => hk k (f3 k e)), f0, f1, f2, f3, fun k e => Nat.lt_of_lt_of_le (f4 k e) hm.size⟩
theorem DiskAt.below {w w' : World} {F : Nat → Prop} {db n : Nat} {st : St} (h : DiskAt w F db n st) (hb : Below w.heap.size w w') : DiskAt w' F db n st :=
  h.moves (moves_of_below (F := fun _ => False) hb) (fun _ _ e => e)
end Go.Proofs.Ytckkgcogkcljeaa
