/- The frame of a statement whose row names no variable, over Gc and records: what comes in, for parameters that are bytes, numbers, records and lists of records. Layer 3 (disk) as plain mathematics: what lasts, the cache, and what each call does to them. No program. Memory that more than one party writes: Moves F (all but the blocks F, and new ones, is as it was); a disk of the program in memory (DiskAt). disk: there, Sectors, Loose, New, Read, Image. -/
import Derived.Test.YtdmkkfpbgpijjaaGreatWam
import Derived.ProofKit
import Derived.OpenShut
import Derived.LaidMore
import Derived.Stop.Joined
import Derived.Lib.LaidTab
import Derived.SevenTiedAt
import Derived.Deep.Slices
import Derived.Deep.Fields
import Derived.Test.YtdmkkfpbgpijjaaGreatWaa
import Derived.Deep.MidRow
import Derived.Deep.AppendLies
import Derived.Maps.OwnSet
namespace Go.Proofs.YtdmkkfpbgpijjaaGreat
open Go.ChangeShapes Go.WideShapes Go.ChangeAt Go.RowKit Go.Deep

set_option maxRecDepth 100000 in
theorem own : ownKnob Tryz.prog.godebug = none := by kernel_rfl
set_option maxRecDepth 100000 in
theorem laidOut : laidOutB Tryz.prog = true := by kernel_rfl
set_option maxRecDepth 100000 in
theorem one_val {H : Type} {enc : TypeId × Value → H} {W : World} {v0 v1 : Value} {n : Nat} {x : DataW H × List MemPlace} (h : DataW.trod enc Tryz.prog W 0 (fun _ => true) true n 61 [v0, v1] = some x) : ∃ t k, v0 = .bool t ∧ v1 = .int .i64 k ∧ isI64 k := by
  obtain ⟨ys, n', _, _, _, hyl, hf⟩ := DataW.trod_struct Tryz.underlying61 h
  match ys, hyl with
  | [y0, y1], _ =>
    have f0 : DataW.trod enc Tryz.prog W 0 (fun _ => true) true n' 4 (([v0, v1].drop 0).take (Tryz.prog.cellsOf 4)) = some y0 := hf 0 _ rfl
    have f1 : DataW.trod enc Tryz.prog W 0 (fun _ => true) true n' 3 (([v0, v1].drop 1).take (Tryz.prog.cellsOf 3)) = some y1 := hf 1 _ rfl
    rw [show Tryz.prog.cellsOf 3 = 1 by kernel_rfl] at f1
    rw [show Tryz.prog.cellsOf 4 = 1 by kernel_rfl] at f0
    obtain ⟨b0, e0, _⟩ := DataW.trod_bool Tryz.underlying4 (show DataW.trod enc Tryz.prog W 0 (fun _ => true) true n' 4 [v0] = some y0 from f0)
    obtain ⟨a1, e1, _, w1⟩ := DataW.trod_int Tryz.underlying3 (show DataW.trod enc Tryz.prog W 0 (fun _ => true) true n' 3 [v1] = some y1 from f1)
    simp only [List.cons.injEq, and_true] at e0 e1
    have := bounds_i64 w1
    exact ⟨b0, a1, e0, e1, by omega, by omega⟩
set_option maxRecDepth 100000 in
theorem one_key {H : Type} {enc : TypeId × Value → H} {W : World} {v0 v1 v2 v3 : Value} {n : Nat} {x : DataW H × List MemPlace} (h : DataW.trod enc Tryz.prog W 0 (fun _ => true) true n 59 [v0, v1, v2, v3] = some x) :
    ∃ a b c d, v0 = .int .u8 a ∧ v1 = .int .u8 b ∧ v2 = .int .u8 c ∧ v3 = .int .u8 d ∧ (0 ≤ a ∧ a < 256) ∧ (0 ≤ b ∧ b < 256) ∧ (0 ≤ c ∧ c < 256) ∧ (0 ≤ d ∧ d < 256) := by
  obtain ⟨ys, n', _, _, _, hyl, hf⟩ := DataW.trod_array Tryz.underlying59 h
  rw [show Tryz.prog.cellsOf 5 = 1 by kernel_rfl] at hf
  match ys, hyl with
  | [y0, y1, y2, y3], _ =>
    obtain ⟨a0, e0, _, w0⟩ := DataW.trod_int Tryz.underlying5 (show DataW.trod enc Tryz.prog W 0 (fun _ => true) true n' 5 [v0] = some y0 from hf 0 (by omega))
    obtain ⟨a1, e1, _, w1⟩ := DataW.trod_int Tryz.underlying5 (show DataW.trod enc Tryz.prog W 0 (fun _ => true) true n' 5 [v1] = some y1 from hf 1 (by omega))
    obtain ⟨a2, e2, _, w2⟩ := DataW.trod_int Tryz.underlying5 (show DataW.trod enc Tryz.prog W 0 (fun _ => true) true n' 5 [v2] = some y2 from hf 2 (by omega))
    obtain ⟨a3, e3, _, w3⟩ := DataW.trod_int Tryz.underlying5 (show DataW.trod enc Tryz.prog W 0 (fun _ => true) true n' 5 [v3] = some y3 from hf 3 (by omega))
    simp only [List.cons.injEq, and_true] at e0 e1 e2 e3
    have b0 := bounds_u8 w0
    have b1 := bounds_u8 w1
    have b2 := bounds_u8 w2
    have b3 := bounds_u8 w3
    exact ⟨a0, a1, a2, a3, e0, e1, e2, e3, by omega, by omega, by omega, by omega⟩
set_option maxRecDepth 100000 in
/-- A record that comes in. -/
theorem one_rec {H : Type} {enc : TypeId × Value → H} {W : World} {cs : List Value} {n : Nat} {x : DataW H × List MemPlace} (hl : cs.length = 11) (h : DataW.trod enc Tryz.prog W 0 (fun _ => true) true n 63 cs = some x) :
    ∃ r : RecD, cs = recC r ∧ okR r := by
  match cs, hl with
  | [v0, v1, v2, v3, v4, v5, v6, v7, v8, v9, v10], _ =>
    obtain ⟨ys, n', _, _, _, hyl, hf⟩ := DataW.trod_struct Tryz.underlying63 h
    match ys, hyl with
    | [y0, y1, y2, y3, y4, y5], _ =>
      have f0 : DataW.trod enc Tryz.prog W 0 (fun _ => true) true n' 3 (([v0, v1, v2, v3, v4, v5, v6, v7, v8, v9, v10].drop 0).take (Tryz.prog.cellsOf 3)) = some y0 := hf 0 _ rfl
      have f1 : DataW.trod enc Tryz.prog W 0 (fun _ => true) true n' 3 (([v0, v1, v2, v3, v4, v5, v6, v7, v8, v9, v10].drop 1).take (Tryz.prog.cellsOf 3)) = some y1 := hf 1 _ rfl
      have f2 : DataW.trod enc Tryz.prog W 0 (fun _ => true) true n' 57 (([v0, v1, v2, v3, v4, v5, v6, v7, v8, v9, v10].drop 2).take (Tryz.prog.cellsOf 57)) = some y2 := hf 2 _ rfl
      have f3 : DataW.trod enc Tryz.prog W 0 (fun _ => true) true n' 59 (([v0, v1, v2, v3, v4, v5, v6, v7, v8, v9, v10].drop 3).take (Tryz.prog.cellsOf 59)) = some y3 := hf 3 _ rfl
      have f4 : DataW.trod enc Tryz.prog W 0 (fun _ => true) true n' 61 (([v0, v1, v2, v3, v4, v5, v6, v7, v8, v9, v10].drop 7).take (Tryz.prog.cellsOf 61)) = some y4 := hf 4 _ rfl
      have f5 : DataW.trod enc Tryz.prog W 0 (fun _ => true) true n' 61 (([v0, v1, v2, v3, v4, v5, v6, v7, v8, v9, v10].drop 9).take (Tryz.prog.cellsOf 61)) = some y5 := hf 5 _ rfl
      rw [show Tryz.prog.cellsOf 3 = 1 by kernel_rfl] at f0 f1
      rw [show Tryz.prog.cellsOf 57 = 1 by kernel_rfl] at f2
      rw [show Tryz.prog.cellsOf 59 = 4 by kernel_rfl] at f3
      rw [show Tryz.prog.cellsOf 61 = 2 by kernel_rfl] at f4 f5
      obtain ⟨a0, e0, _, _⟩ := DataW.trod_int Tryz.underlying3 (show DataW.trod enc Tryz.prog W 0 (fun _ => true) true n' 3 [v0] = some y0 from f0)
      obtain ⟨a1, e1, _, _⟩ := DataW.trod_int Tryz.underlying3 (show DataW.trod enc Tryz.prog W 0 (fun _ => true) true n' 3 [v1] = some y1 from f1)
      obtain ⟨a2, e2, _, w2⟩ := DataW.trod_int Tryz.underlying57 (show DataW.trod enc Tryz.prog W 0 (fun _ => true) true n' 57 [v2] = some y2 from f2)
      obtain ⟨k0, k1, k2, k3, q0, q1, q2, q3, p0, p1, p2, p3⟩ := one_key (show DataW.trod enc Tryz.prog W 0 (fun _ => true) true n' 59 [v3, v4, v5, v6] = some y3 from f3)
      obtain ⟨t4, n4, r0, r1, i4⟩ := one_val (show DataW.trod enc Tryz.prog W 0 (fun _ => true) true n' 61 [v7, v8] = some y4 from f4)
      obtain ⟨t5, n5, s0, s1, i5⟩ := one_val (show DataW.trod enc Tryz.prog W 0 (fun _ => true) true n' 61 [v9, v10] = some y5 from f5)
      simp only [List.cons.injEq, and_true] at e0 e1 e2
      have b2 : 0 ≤ a2 ∧ a2 < 65536 := by have := bounds_u16 w2; omega
      subst e0 e1 e2 q0 q1 q2 q3 r0 r1 s0 s1
      refine ⟨⟨a0, a1, a2.toNat, k0, k1, k2, k3, t4, n4, t5, n5⟩, ?_, ⟨by dsimp only; omega, p0, p1, p2, p3, i4, i5⟩⟩
      simp only [recC]
      rw [show ((a2.toNat : Nat) : Int) = a2 by omega]
end Go.Proofs.YtdmkkfpbgpijjaaGreat
namespace Go.Proofs.YtdmkkfpbgpijjaaGreat

/-- What lasts, and the writes in the cache, in order. -/
structure St where
  safe : List (List Int)
  cache : List (Nat × List Int)

def carry : List (List Int) → List (Nat × List Int) → List (List Int)
  | s, [] => s
  | s, p :: ws => carry (s.set p.1 p.2) ws
def secAt (s : List (List Int)) (i : Nat) : List Int := s[i]?.getD []
def lastIn (i : Nat) : List (Nat × List Int) → Option (List Int)
  | [] => none
  | p :: ws => match lastIn i ws with
    | some z => some z
    | none => if p.1 = i then some p.2 else none

theorem carry_append (ws vs : List (Nat × List Int)) : ∀ s, carry s (ws ++ vs) = carry (carry s ws) vs := by
  induction ws with
  | nil => intro s; rfl
  | cons p ws ih => intro s; exact ih _
theorem carry_snoc (s : List (List Int)) (ws : List (Nat × List Int)) (p : Nat × List Int) : carry s (ws ++ [p]) = (carry s ws).set p.1 p.2 := by rw [carry_append]; rfl
theorem length_carry (ws : List (Nat × List Int)) : ∀ s, (carry s ws).length = s.length := by
  induction ws with
  | nil => intro s; rfl
  | cons p ws ih => intro s; rw [carry, ih]; simp
theorem secAt_set (s : List (List Int)) (i j : Nat) (z : List Int) (hi : i < s.length) : secAt (s.set j z) i = if j = i then z else secAt s i := by
  unfold secAt
  rw [List.getElem?_set]
  by_cases h : j = i
  · subst h; simp [hi]
  · simp [h]
theorem carry_at (ws : List (Nat × List Int)) (i : Nat) : ∀ s : List (List Int), i < s.length → secAt (carry s ws) i = (lastIn i ws).getD (secAt s i) := by
  induction ws with
  | nil => intro s _; rfl
  | cons p ws ih =>
    intro s hi
    rw [carry, ih _ (by simpa using hi), secAt_set _ _ _ _ hi, lastIn]
    cases lastIn i ws with
    | some z => rfl
    | none => by_cases h : p.1 = i <;> simp [h]
theorem lastIn_snoc (i : Nat) (ws : List (Nat × List Int)) (p : Nat × List Int) : lastIn i (ws ++ [p]) = if p.1 = i then some p.2 else lastIn i ws := by
  induction ws with
  | nil => simp [lastIn]
  | cons q ws ih =>
    rw [List.cons_append, lastIn, ih]
    by_cases h : p.1 = i
    · simp [h]
    · rw [if_neg h, if_neg h]; rfl
theorem lastIn_mem (i : Nat) (ws : List (Nat × List Int)) (z : List Int) (h : lastIn i ws = some z) : (i, z) ∈ ws := by
  induction ws with
  | nil => simp [lastIn] at h
  | cons q ws ih =>
    rw [lastIn] at h
    cases hl : lastIn i ws with
    | some y => rw [hl] at h; simp at h; subst h; exact List.mem_cons_of_mem _ (ih hl)
    | none =>
      rw [hl] at h
      simp at h
      obtain ⟨h1, h2⟩ := h
      have : q = (i, z) := by rw [← h1, ← h2]
      rw [this]; exact List.mem_cons_self

/-- There are n sectors of 32 bytes, and each write in the cache is of one of them. -/
structure Wf (n : Nat) (st : St) : Prop where
  len : st.safe.length = n
  secs : ∀ z ∈ st.safe, z.length = 32
  at_ : ∀ p ∈ st.cache, p.1 < n
  has : ∀ p ∈ st.cache, p.2.length = 32

def nows (st : St) : List (List Int) := carry st.safe st.cache
def nowAt (st : St) (i : Nat) : List Int := secAt (nows st) i
def goodAt (n : Nat) (i : Int) : Bool := decide (0 ≤ i) && decide (i < n)
def writeS (st : St) (i : Nat) (zs : List Int) : St := { st with cache := st.cache ++ [(i, zs)] }
def flushS (st : St) : St := { safe := nows st, cache := [] }
def keptOf (keep : Int) (l : Nat) : Nat := min keep.toNat l
def tearOf (tear : Int) : Nat := min tear.toNat 31
def tornS (s : List (List Int)) (p : Nat × List Int) (t : Nat) : List (List Int) := s.set p.1 (p.2.take t ++ (secAt s p.1).drop t)
def crashL (s : List (List Int)) (ws : List (Nat × List Int)) (keep tear : Int) : List (List Int) :=
  match ws[keptOf keep ws.length]? with
  | none => carry s ws
  | some p => tornS (carry s (ws.take (keptOf keep ws.length))) p (tearOf tear)
def crashS (st : St) (keep tear : Int) : St := { safe := crashL st.safe st.cache keep tear, cache := [] }

theorem mem_carry (ws : List (Nat × List Int)) (h : ∀ p ∈ ws, p.2.length = 32) : ∀ s : List (List Int), (∀ z ∈ s, z.length = 32) → ∀ z ∈ carry s ws, z.length = 32 := by
  induction ws with
  | nil => intro s hs; exact hs
  | cons p ws ih =>
    intro s hs
    refine ih (fun q hq => h q (List.mem_cons_of_mem _ hq)) _ ?_
    intro z hz
    rcases List.mem_or_eq_of_mem_set hz with h1 | h1
    · exact hs z h1
    · rw [h1]; exact h p List.mem_cons_self
theorem secAt_mem {s : List (List Int)} {i : Nat} (hi : i < s.length) : secAt s i ∈ s := by
  unfold secAt; rw [List.getElem?_eq_getElem hi]; exact List.getElem_mem hi
theorem secAt_len {s : List (List Int)} {n i : Nat} (hl : s.length = n) (hs : ∀ z ∈ s, z.length = 32) (hi : i < n) : (secAt s i).length = 32 := hs _ (secAt_mem (by omega))
theorem Wf.nows_len {n : Nat} {st : St} (h : Wf n st) : (nows st).length = n := by unfold nows; rw [length_carry, h.len]
theorem Wf.nows_secs {n : Nat} {st : St} (h : Wf n st) : ∀ z ∈ nows st, z.length = 32 := mem_carry _ h.has _ h.secs
theorem Wf.now_len {n : Nat} {st : St} (h : Wf n st) {i : Nat} (hi : i < n) : (nowAt st i).length = 32 := secAt_len h.nows_len h.nows_secs hi
theorem Wf.write {n : Nat} {st : St} (h : Wf n st) {i : Nat} {zs : List Int} (hi : i < n) (hz : zs.length = 32) : Wf n (writeS st i zs) := by
  refine ⟨h.len, h.secs, ?_, ?_⟩
  · intro p hp
    simp only [writeS, List.mem_append, List.mem_singleton] at hp
    rcases hp with hp | rfl
    · exact h.at_ p hp
    · exact hi
  · intro p hp
    simp only [writeS, List.mem_append, List.mem_singleton] at hp
    rcases hp with hp | rfl
    · exact h.has p hp
    · exact hz
theorem Wf.carry {n : Nat} {st : St} (h : Wf n st) (l : Nat) : Wf n { st with safe := carry st.safe (st.cache.take l) } :=
  ⟨by rw [length_carry, h.len], mem_carry _ (fun p hp => h.has p (List.mem_of_mem_take hp)) _ h.secs, h.at_, h.has⟩
theorem Wf.empty {n : Nat} {st : St} (h : Wf n st) : Wf n { st with cache := [] } := ⟨h.len, h.secs, (fun _ hp => by cases hp), (fun _ hp => by cases hp)⟩
theorem torn_len {n : Nat} {s : List (List Int)} {p : Nat × List Int} {t : Nat} (hl : s.length = n) (hs : ∀ z ∈ s, z.length = 32) (hi : p.1 < n) (hz : p.2.length = 32) (ht : t ≤ 31) : (tornS s p t).length = n ∧ ∀ z ∈ tornS s p t, z.length = 32 := by
  refine ⟨by unfold tornS; simpa using hl, fun z hz' => ?_⟩
  rcases List.mem_or_eq_of_mem_set hz' with h1 | h1
  · exact hs z h1
  · have := secAt_len hl hs hi
    rw [h1]; simp; omega
theorem Wf.crash {n : Nat} {st : St} (h : Wf n st) (keep tear : Int) : Wf n (crashS st keep tear) := by
  have hc := h.carry (keptOf keep st.cache.length)
  unfold crashS crashL
  cases e : st.cache[keptOf keep st.cache.length]? with
  | none => exact ⟨h.nows_len, h.nows_secs, (fun _ hp => by cases hp), (fun _ hp => by cases hp)⟩
  | some p =>
    have hp := List.mem_of_getElem? e
    obtain ⟨h1, h2⟩ := torn_len (t := tearOf tear) hc.len hc.secs (h.at_ p hp) (h.has p hp) (by unfold tearOf; omega)
    exact ⟨h1, h2, (fun _ hp => by cases hp), (fun _ hp => by cases hp)⟩
theorem flat_len {n : Nat} (s : List (List Int)) (hl : s.length = n) (hs : ∀ z ∈ s, z.length = 32) : s.flatten.length = 32 * n := by
  induction s generalizing n with
  | nil => simp at hl; subst hl; rfl
  | cons z s ih =>
    have h1 := ih (n := n - 1) (by simp at hl; omega) (fun y hy => hs y (List.mem_cons_of_mem _ hy))
    have h2 := hs z List.mem_cons_self
    simp at hl ⊢
    simp at h1
    omega
theorem flat_take (s : List (List Int)) (i : Nat) (hi : i < s.length) : (s.take (i + 1)).flatten = (s.take i).flatten ++ secAt s i := by
  have e : secAt s i = s[i] := by simp [secAt, hi]
  rw [List.take_succ_eq_append_getElem hi, List.flatten_append, e]
  simp
end Go.Proofs.YtdmkkfpbgpijjaaGreat
namespace Go.Proofs.YtdmkkfpbgpijjaaGreat
open Go.RowKit Go.Deep Go.Maps

/-- w' is w but for the blocks F, and new ones. -/
structure Moves (F : Nat → Prop) (w w' : World) : Prop where
  os : w'.os = w.os
  tape : w'.tape = w.tape
  output : w'.output = w.output
  size : w.heap.size ≤ w'.heap.size
  block : ∀ k, k < w.heap.size → ¬ F k → w'.heap[k]? = w.heap[k]?
theorem Moves.refl (F : Nat → Prop) (w : World) : Moves F w w := ⟨rfl, rfl, rfl, Nat.le_refl _, fun _ _ _ => rfl⟩
theorem Moves.below {F : Nat → Prop} {w w' : World} {B : Nat} (h : Moves F w w') (hB : B ≤ w.heap.size) (hF : ∀ k, F k → B ≤ k) : Below B w w' :=
  ⟨h.os, h.tape, h.output, h.size, fun k hk => h.block k (by omega) (fun e => by have := hF k e; omega)⟩
theorem moves_of_below {F : Nat → Prop} {w w' : World} (h : Below w.heap.size w w') : Moves F w w' := ⟨h.os, h.tape, h.output, h.size, fun k hk _ => h.block k hk⟩
theorem moves_of_grown {F : Nat → Prop} {w w' : World} {row : Option Nat} (h : w.grownBy w' row) (hF : ∀ k, row = some k → F k) : Moves F w w' :=
  ⟨h.os, h.tape, h.output, h.size, fun k hk hn => h.block k hk (fun e => hn (hF k e.symm))⟩
theorem Moves.trans {F F' : Nat → Prop} {a b c : World} (h : Moves F a b) (k : Moves F' b c) (hF : ∀ i, F' i → F i ∨ a.heap.size ≤ i) : Moves F a c :=
  ⟨k.os.trans h.os, k.tape.trans h.tape, k.output.trans h.output, Nat.le_trans h.size k.size, fun i hi hn => (k.block i (Nat.lt_of_lt_of_le hi h.size) (fun e => (hF i e).elim hn (fun g => by omega))).trans (h.block i hi hn)⟩
theorem Moves.mono {F F' : Nat → Prop} {a b : World} (h : Moves F a b) (hF : ∀ i, F i → F' i) : Moves F' a b := ⟨h.os, h.tape, h.output, h.size, fun k hk hn => h.block k hk (fun e => hn (hF k e))⟩
theorem moves_alloc (F : Nat → Prop) (w : World) (o : Obj) : Moves F w (w.alloc o) := moves_of_below ((Below.refl _ _).alloc (Nat.le_refl _) o)
theorem moves_drewN (F : Nat → Prop) (w : World) (n : Nat) : Moves F w (w.drewN n) := moves_of_below (below_drewN (Below.refl _ _) n)
theorem moves_setCell (F : Nat → Prop) (w : World) (a : Addr) (v : Value) (h : F a.block) : Moves F w (w.setCell a v) := by
  have hb := (Below.refl 0 w).setCell (Nat.zero_le a.block) v
  exact ⟨hb.os, hb.tape, hb.output, hb.size, fun k _ hn => RowKit.Below.heap_setCell _ _ _ _ (fun e => hn (e ▸ h))⟩
theorem moves_setCells (F : Nat → Prop) (b : Nat) (h : F b) : ∀ (vs : List Value) (o : Nat) (w : World), Moves F w (w.setCells b o vs)
  | [], _, w => Moves.refl F w
  | v :: vs, o, w => (moves_setCell F w ⟨b, o, none⟩ v h).trans (moves_setCells F b h vs (o + 1) _) (fun _ hi => .inl hi)

/-- The blocks that are F, or new between w and w'. -/
def grow (F : Nat → Prop) (w w' : World) (k : Nat) : Prop := F k ∨ (w.heap.size ≤ k ∧ k < w'.heap.size)

/-! ### a sector's bytes -/
def secC (zs : List Int) : List Value := zs.map (Value.int .u8)
def wrC (p : Nat × List Int) : List Value := Value.int .i64 p.1 :: secC p.2
theorem secC_len (zs : List Int) : (secC zs).length = zs.length := by simp [secC]
theorem secC_one (zs : List Int) : ∀ v ∈ secC zs, v.oneCell' = true := by
  intro v hv
  simp only [secC, List.mem_map] at hv
  obtain ⟨z, _, rfl⟩ := hv
  rfl
theorem wrC_one (p : Nat × List Int) : ∀ v ∈ wrC p, v.oneCell' = true := by
  intro v hv
  rcases List.mem_cons.1 hv with rfl | hv
  · rfl
  · exact secC_one _ v hv
def litOf : Value → DataW Unit
  | .int k a => .lit (.int k a)
  | _ => .nil
def secR (v : Value) : Option (DataW Unit × List MemPlace) := match v with
  | .agg cs => some (.agg (cs.toList.map litOf), [])
  | _ => none
def secD (zs : List Int) : DataW Unit := .agg (zs.map fun z => .lit (.int .u8 z))
theorem secR_mk (zs : List Int) : secR (.agg (secC zs).toArray) = some (secD zs, []) := by
  simp [secR, secC, secD, litOf, Function.comp_def]
theorem litOf_inv {v : Value} {z : Int} (h : litOf v = .lit (.int .u8 z)) : v = .int .u8 z := by
  cases v <;> simp [litOf] at h
  obtain ⟨rfl, rfl⟩ := h
  rfl
theorem map_litOf_inv : ∀ (l : List Value) (zs : List Int), l.map litOf = zs.map (fun z => DataW.lit (.int .u8 z)) → l = secC zs
  | [], [], _ => rfl
  | [], _ :: _, h => by simp at h
  | _ :: _, [], h => by simp at h
  | v :: l, z :: zs, h => by
    simp only [List.map_cons, List.cons.injEq] at h
    rw [litOf_inv h.1, map_litOf_inv l zs h.2]
    rfl
theorem secR_inv {v : Value} {zs : List Int} {ps : List MemPlace} (h : secR v = some (secD zs, ps)) : v = .agg (secC zs).toArray := by
  cases v <;> simp [secR, secD] at h
  rename_i cs
  have := map_litOf_inv cs.toList zs h.1
  rw [← this]
def keyL (i : Nat) : Lit := .int .i64 i
def mapOf (ws : List (Nat × List Int)) : DataW Unit := ws.foldl (fun D p => D.put (keyL p.1) (secD p.2)) (.map [])
theorem mapOf_snoc (ws : List (Nat × List Int)) (p : Nat × List Int) : mapOf (ws ++ [p]) = (mapOf ws).put (keyL p.1) (secD p.2) := by simp [mapOf, List.foldl_append]
theorem isKeyL (i : Nat) : WideAt.IsKeyLit (keyL i) := trivial
theorem keyL_ne {i j : Nat} (h : i ≠ j) : keyL i ≠ keyL j := by
  intro e
  simp only [keyL, Lit.int.injEq, true_and] at e
  omega
theorem mapOf_isMap (ws : List (Nat × List Int)) : IsMap (mapOf ws) := by
  suffices h : ∀ D : DataW Unit, IsMap D → IsMap (ws.foldl (fun D p => D.put (keyL p.1) (secD p.2)) D) from h _ isMap_empty
  induction ws with
  | nil => intro D h; exact h
  | cons p ws ih => intro D h; exact ih _ (h.put _ _)
theorem mapOf_says (i : Nat) (ws : List (Nat × List Int)) (z : DataW Unit) : Maps.has (mapOf ws) (keyL i) = (lastIn i ws).isSome ∧ (mapOf ws).atKey (keyL i) z = ((lastIn i ws).map secD).getD z := by
  suffices h : ∀ rs : List (Nat × List Int), Maps.has (mapOf rs.reverse) (keyL i) = (lastIn i rs.reverse).isSome ∧ (mapOf rs.reverse).atKey (keyL i) z = ((lastIn i rs.reverse).map secD).getD z by
    have := h ws.reverse
    rwa [List.reverse_reverse] at this
  intro rs
  induction rs with
  | nil => exact ⟨rfl, rfl⟩
  | cons p rs ih =>
    rw [List.reverse_cons, mapOf_snoc, lastIn_snoc]
    by_cases h : p.1 = i
    · subst h
      rw [if_pos rfl, has_put_same (mapOf_isMap _) (isKeyL _), atKey_put_same (mapOf_isMap _) (isKeyL _)]
      exact ⟨rfl, rfl⟩
    · rw [if_neg h, has_put_other (keyL_ne (Ne.symm h)), atKey_put_other (keyL_ne (Ne.symm h))]
      exact ih

/-! ### lists of cells, part by part -/
theorem flatD_at {α β : Type} (f : α → List β) (s : Nat) : ∀ (xs : List α), (∀ x ∈ xs, (f x).length = s) → ∀ (i : Nat) (x : α), xs[i]? = some x → ∀ j, j < s → (xs.flatMap f)[i * s + j]? = (f x)[j]?
  | [], _, i, x, hx, _, _ => by simp at hx
  | y :: xs, h, 0, x, hx, j, hj => by
    simp at hx; subst hx
    have := h y List.mem_cons_self
    rw [List.flatMap_cons, Nat.zero_mul, Nat.zero_add, List.getElem?_append_left (by omega)]
  | y :: xs, h, i + 1, x, hx, j, hj => by
    have h1 := h y List.mem_cons_self
    have e : (i + 1) * s + j = s + (i * s + j) := by rw [Nat.succ_mul]; omega
    rw [List.flatMap_cons, e, ← h1, List.getElem?_append_right (by omega), Nat.add_sub_cancel_left, h1]
    exact flatD_at f s xs (fun z hz => h z (List.mem_cons_of_mem _ hz)) i x (by simpa using hx) j hj
theorem flat_length {α β : Type} (f : α → List β) (s : Nat) (xs : List α) (h : ∀ x ∈ xs, (f x).length = s) : (xs.flatMap f).length = xs.length * s := by
  induction xs with
  | nil => simp
  | cons x xs ih =>
    rw [List.flatMap_cons, List.length_append, ih (fun z hz => h z (List.mem_cons_of_mem _ hz)), h x List.mem_cons_self, List.length_cons, Nat.succ_mul]
    omega

/-! ### a disk in memory -/
def Secs (w : World) (lb : Nat) (s : List (List Int)) : Prop := ∀ i, i < s.length → w.rangeAt lb (i * 32) (secC (secAt s i)) ∧ w.there lb (i * 32) 32
structure DiskIn (w : World) (db lb mb : Nat) (cv : Value) (n : Nat) (st : St) : Prop where
  c0 : w.cell? ⟨db, 0, none⟩ = some (.slice (some ⟨lb, 0, none⟩) n n)
  c1 : w.cell? ⟨db, 1, none⟩ = some cv
  c2 : w.cell? ⟨db, 2, none⟩ = some (.map (some mb))
  fz : w.frozen? ⟨db, 1, none⟩ = false
  secs : Secs w lb st.safe
  row : w.ownsRow 0 100 33 cv st.cache.length (st.cache.flatMap wrC)
  map : w.ownsMap Tryz.prog 3 secR mb st.cache.length (mapOf st.cache)
  wf : Wf n st
  n1 : 1 ≤ n
  n2 : n ≤ 512
  lt0 : db < w.heap.size
  lt1 : lb < w.heap.size
  ne1 : db ≠ lb
  ne2 : db ≠ mb
  ne3 : lb ≠ mb
  ne4 : cv.ownBlock ≠ some db
  ne5 : cv.ownBlock ≠ some lb
  ne6 : cv.ownBlock ≠ some mb

theorem rangeAt_of_block' {w w' : World} {b o : Nat} {cs : List Value} (h : w'.heap[b]? = w.heap[b]?) (hr : w.rangeAt b o cs) : w'.rangeAt b o cs := fun j v hv => (World.cell?_of_block (a := ⟨b, o + j, none⟩) h).trans (hr j v hv)
theorem there_of_block' {w w' : World} {b o n : Nat} (h : w'.heap[b]? = w.heap[b]?) (hr : w.there b o n) : w'.there b o n := fun j hj => by
  rw [World.cell?_of_block (a := ⟨b, o + j, none⟩) h, World.frozen?_of_block (a := ⟨b, o + j, none⟩) h]
  exact hr j hj
theorem Secs.kept {w w' : World} {lb : Nat} {s : List (List Int)} (h : Secs w lb s) (hb : w'.heap[lb]? = w.heap[lb]?) : Secs w' lb s := fun i hi => ⟨rangeAt_of_block' hb (h i hi).1, there_of_block' hb (h i hi).2⟩
theorem row_kept {w w' : World} {base : Nat} {e : TypeId} {size : Nat} {v : Value} {n : Nat} {xs : List Value} (h : w.ownsRow base e size v n xs) (hb : ∀ k, v.ownBlock = some k → w'.heap[k]? = w.heap[k]?) : w'.ownsRow base e size v n xs := by
  refine ⟨h.1, ?_⟩
  rcases h.2 with h0 | ⟨g, cap, cur, rfl, h2, h3, h4⟩
  · exact .inl h0
  · exact .inr ⟨g, cap, cur, rfl, h2, (hb g rfl).trans h3, h4⟩
theorem map_kept {w w' : World} {P : Program} {k : TypeId} {R : Value → Option (DataW Unit × List MemPlace)} {b n : Nat} {D : DataW Unit} (h : w.ownsMap P k R b n D) (hb : w'.heap[b]? = w.heap[b]?) : w'.ownsMap P k R b n D := by
  obtain ⟨es, clock, h1, h2⟩ := h
  exact ⟨es, clock, hb.trans h1, h2⟩
theorem DiskIn.kept {w w' : World} {db lb mb : Nat} {cv : Value} {n : Nat} {st : St} (h : DiskIn w db lb mb cv n st) (hs : w.heap.size ≤ w'.heap.size)
    (h0 : w'.heap[db]? = w.heap[db]?) (h1 : w'.heap[lb]? = w.heap[lb]?) (h2 : w'.heap[mb]? = w.heap[mb]?) (h3 : ∀ k, cv.ownBlock = some k → w'.heap[k]? = w.heap[k]?) : DiskIn w' db lb mb cv n st :=
  { c0 := (World.cell?_of_block (a := ⟨db, 0, none⟩) h0).trans h.c0, c1 := (World.cell?_of_block (a := ⟨db, 1, none⟩) h0).trans h.c1, c2 := (World.cell?_of_block (a := ⟨db, 2, none⟩) h0).trans h.c2
    fz := (World.frozen?_of_block (a := ⟨db, 1, none⟩) h0).trans h.fz, secs := h.secs.kept h1, row := row_kept h.row h3, map := map_kept h.map h2, wf := h.wf, n1 := h.n1, n2 := h.n2
    lt0 := Nat.lt_of_lt_of_le h.lt0 hs, lt1 := Nat.lt_of_lt_of_le h.lt1 hs, ne1 := h.ne1, ne2 := h.ne2, ne3 := h.ne3, ne4 := h.ne4, ne5 := h.ne5, ne6 := h.ne6 }
theorem DiskIn.below {w w' : World} {db lb mb : Nat} {cv : Value} {n : Nat} {st : St} (h : DiskIn w db lb mb cv n st) (hb : Below w.heap.size w w') : DiskIn w' db lb mb cv n st :=
  h.kept hb.size (hb.block _ h.lt0) (hb.block _ h.lt1) (hb.block _ h.map.lt) (fun k hk => hb.block k (h.row.lt k hk).2)

/-- A disk at db, all of whose blocks are F. -/
def DiskAt (w : World) (F : Nat → Prop) (db n : Nat) (st : St) : Prop := ∃ lb mb cv, DiskIn w db lb mb cv n st ∧ F db ∧ F lb ∧ F mb ∧ (∀ k, cv.ownBlock = some k → F k) ∧ ∀ k, F k → k < w.heap.size
theorem DiskAt.lt {w : World} {F : Nat → Prop} {db n : Nat} {st : St} (h : DiskAt w F db n st) : ∀ k, F k → k < w.heap.size := by
  obtain ⟨_, _, _, _, _, _, _, _, h⟩ := h; exact h
theorem DiskAt.wf {w : World} {F : Nat → Prop} {db n : Nat} {st : St} (h : DiskAt w F db n st) : Wf n st := by
  obtain ⟨_, _, _, h, _⟩ := h; exact h.wf
theorem DiskAt.n2 {w : World} {F : Nat → Prop} {db n : Nat} {st : St} (h : DiskAt w F db n st) : 1 ≤ n ∧ n ≤ 512 := by
  obtain ⟨_, _, _, h, _⟩ := h; exact ⟨h.n1, h.n2⟩
theorem DiskAt.moves {w w' : World} {F G : Nat → Prop} {db n : Nat} {st : St} (h : DiskAt w F db n st) (hm : Moves G w w') (hd : ∀ k, F k → ¬ G k) : DiskAt w' F db n st := by
  obtain ⟨lb, mb, cv, h, f0, f1, f2, f3, f4⟩ := h
  have hk : ∀ k, F k → w'.heap[k]? = w.heap[k]? := fun k hk => hm.block k (f4 k hk) (hd k hk)
  exact ⟨lb, mb, cv, h.kept hm.size (hk _ f0) (hk _ f1) (hk _ f2) (fun k e => hk k (f3 k e)), f0, f1, f2, f3, fun k e => Nat.lt_of_lt_of_le (f4 k e) hm.size⟩
theorem DiskAt.below {w w' : World} {F : Nat → Prop} {db n : Nat} {st : St} (h : DiskAt w F db n st) (hb : Below w.heap.size w w') : DiskAt w' F db n st :=
  h.moves (moves_of_below (F := fun _ => False) hb) (fun _ _ e => e)
end Go.Proofs.YtdmkkfpbgpijjaaGreat
namespace Go.Proofs.YtdmkkfpbgpijjaaGreat
open Go.RowKit Go.Deep Go.Maps

set_option maxRecDepth 100000 in
set_option maxHeartbeats 400000 in
theorem there_any (db lb n : Nat) (i : Int) (w : World) (c0 : w.cell? ⟨db, 0, none⟩ = some (.slice (some ⟨lb, 0, none⟩) n n)) :
    Calls Tryz.prog 52 #[.pointer (some ⟨db, 0, none⟩), .int .i64 i] w fun e w' => e = .returned (.bool (goodAt n i)) ∧ w = w' := by
  unfold goodAt
  by_cases h0 : 0 ≤ i
  · have h1 : decide (0 ≤ i) = true := by simpa using h0
    rw [h1]
    go_enter Tryz.func52, Tryz.ntmps52
    go_wp2
    go_ret
    exact ⟨by simp, rfl⟩
  · have h1 : decide (0 ≤ i) = false := by simpa using h0
    rw [h1]
    go_enter Tryz.func52, Tryz.ntmps52
    go_wp2
    go_ret
    exact ⟨by simp, rfl⟩
set_option maxRecDepth 100000 in
set_option maxHeartbeats 400000 in
theorem sectors_any (db lb n : Nat) (w : World) (c0 : w.cell? ⟨db, 0, none⟩ = some (.slice (some ⟨lb, 0, none⟩) n n)) :
    Calls Tryz.prog 53 #[.pointer (some ⟨db, 0, none⟩)] w fun e w' => e = .returned (.int .i64 n) ∧ w = w' := by
  go_enter Tryz.func53, Tryz.ntmps53
  go_wp2
  go_ret
  exact ⟨rfl, rfl⟩
set_option maxRecDepth 100000 in
set_option maxHeartbeats 400000 in
theorem loose_any (db n c : Nat) (A : Option Addr) (w : World) (c0 : w.cell? ⟨db, 1, none⟩ = some (.slice A n c)) :
    Calls Tryz.prog 28 #[.pointer (some ⟨db, 0, none⟩)] w fun e w' => e = .returned (.int .i64 n) ∧ w = w' := by
  go_enter Tryz.func28, Tryz.ntmps28
  go_wp2
  go_ret
  exact ⟨rfl, rfl⟩

def zeros32 : List Int := List.replicate 32 0
def newS (n : Nat) : St := { safe := List.replicate n zeros32, cache := [] }
theorem newS_wf (n : Nat) : Wf n (newS n) := ⟨by simp [newS], fun z hz => by
  have := List.eq_of_mem_replicate hz
  subst this
  rfl, (fun _ hp => by cases hp), (fun _ hp => by cases hp)⟩
theorem made_at (n j : Nat) (hj : j < n * 32) : (madeCells (Array.replicate 32 (Value.int .u8 0)) (n * 32))[j]? = some (.int .u8 0) := by
  have h1 : j % 32 < 32 := Nat.mod_lt _ (by omega)
  simp [madeCells, hj, h1]
theorem secs_made {w : World} {lb n : Nat} {C : Array Value} {t : TypeId} (hb : w.heap[lb]? = some (.cells C t)) (hC : ∀ j, j < n * 32 → C[j]? = some (.int .u8 0)) : Secs w lb (newS n).safe := by
  intro i hi
  simp only [newS, List.length_replicate] at hi
  have hs : secAt (newS n).safe i = zeros32 := by simp [secAt, newS, hi]
  rw [hs]
  refine ⟨fun j v hv => ?_, fun j hj => ?_⟩
  · have hj : j < 32 := by
      rcases Nat.lt_or_ge j 32 with h | h
      · exact h
      · rw [List.getElem?_eq_none (by simpa [secC, zeros32] using h)] at hv; cases hv
    have e : v = .int .u8 0 := by
      have hm := List.mem_of_getElem? hv
      simp only [secC, List.mem_map] at hm
      obtain ⟨z, hz, rfl⟩ := hm
      rw [List.eq_of_mem_replicate hz]
    subst e
    rw [cell_of_row w lb (i * 32 + j) C t _ hb]
    exact hC _ (by omega)
  · have hc : w.cell? ⟨lb, i * 32 + j, none⟩ = some (.int .u8 0) := by rw [cell_of_row w lb (i * 32 + j) C t _ hb]; exact hC _ (by omega)
    refine ⟨by rw [hc]; rfl, ?_⟩
    simp [World.frozen?, hb]
set_option maxRecDepth 100000 in
theorem info_sec : (Tryz.prog.info? 98).map (fun i => (i.zero, i.size, i.bytes)) = some (some (.agg (Array.replicate 32 (Value.int .u8 0))), 32, 32) := by kernel_rfl

def NewSays (n : Nat) (w : World) (e : Ending) (w' : World) : Prop := ∃ db, e = .returned (.tuple #[.pointer (some ⟨db, 0, none⟩), .int .i64 0]) ∧ DiskAt w' (fun k => w.heap.size ≤ k ∧ k < w'.heap.size) db n (newS n) ∧ Below w.heap.size w w'
theorem diskIn_new (w : World) (n : Nat) (h1 : 1 ≤ n) (h2 : n ≤ 512) (C : Array Value) (hC : ∀ j, j < n * 32 → C[j]? = some (.int .u8 0)) :
    DiskIn (((w.alloc (.cells C 98)).alloc (.map #[] 0)).alloc (.cells #[.slice (some ⟨w.heap.size, 0, none⟩) n n, .slice none 0 0, .map (some (w.heap.size + 1))] 68)) (w.heap.size + 1 + 1) w.heap.size (w.heap.size + 1) (.slice none 0 0) n (newS n) := by
  have e1 : (w.alloc (.cells C 98)).heap.size = w.heap.size + 1 := by simp
  have e2 : ((w.alloc (.cells C 98)).alloc (.map #[] 0)).heap.size = w.heap.size + 1 + 1 := by simp
  generalize hd : (Obj.cells #[.slice (some ⟨w.heap.size, 0, none⟩) n n, .slice none 0 0, .map (some (w.heap.size + 1))] 68) = D
  have b0 : (((w.alloc (.cells C 98)).alloc (.map #[] 0)).alloc D).heap[w.heap.size]? = some (.cells C 98) := by
    rw [Below.heap_alloc _ _ _ (by simp; omega), Below.heap_alloc _ _ _ (by simp), heap_alloc_new]
  have b1 : (((w.alloc (.cells C 98)).alloc (.map #[] 0)).alloc D).heap[w.heap.size + 1]? = some (.map #[] 0) := by
    rw [Below.heap_alloc _ _ _ (by simp), ← e1, heap_alloc_new]
  have b2 : (((w.alloc (.cells C 98)).alloc (.map #[] 0)).alloc D).heap[w.heap.size + 1 + 1]? = some D := by
    rw [← e2, heap_alloc_new]
  have hz : (((w.alloc (.cells C 98)).alloc (.map #[] 0)).alloc D).heap.size = w.heap.size + 3 := by simp
  generalize (((w.alloc (.cells C 98)).alloc (.map #[] 0)).alloc D) = W at *
  subst hd
  refine { c0 := by simp [World.cell?, b2], c1 := by simp [World.cell?, b2], c2 := by simp [World.cell?, b2], fz := by simp [World.frozen?, b2], secs := secs_made b0 hC, row := World.ownsRow_nil _ _ _ _, map := ⟨#[], 0, b1, ⟨by simp, MapKept.stamped_empty 0, by simp⟩, Nat.le_refl _, rfl⟩, wf := newS_wf n, n1 := h1, n2 := h2, lt0 := by omega, lt1 := by omega, ne1 := by omega, ne2 := by omega, ne3 := by omega, ne4 := by simp [Value.ownBlock], ne5 := by simp [Value.ownBlock], ne6 := by simp [Value.ownBlock] }
set_option maxRecDepth 100000 in
set_option maxHeartbeats 1000000 in
theorem new_ok (n : Nat) (w : World) (h1 : 1 ≤ n) (h2 : n ≤ 512) : Calls Tryz.prog 6 #[.int .i64 n] w (NewSays n w) := by
  obtain ⟨i0, hi, hz0, hz1, hz2⟩ := info_parts info_sec
  have hmk : ∀ w : World, (Instr.makeSlice 64 (.int .i64 (n : Int)) (.int .i64 (n : Int))).run Tryz.prog w = .ok (.slice (some ⟨w.heap.size, 0, none⟩) n n) (w.alloc (.cells (madeCells (Array.replicate 32 (Value.int .u8 0)) (n * 32)) 98)) := by
    intro w
    have := run_make (P := Tryz.prog) w 64 98 i0 _ Tryz.underlying64 hi hz0 .i64 .i64 n n (by omega) (by omega) (by rw [hz2]; omega) (by omega)
    rw [hz1] at this
    simpa [Value.cells] using this
  have hC := Lib.hid (made_at n)
  generalize madeCells (Array.replicate 32 (Value.int .u8 0)) (n * 32) = C at *
  clear hi hz0 hz1 hz2
  have hmm := fun (t : TypeId) (w : World) => run_makeMap (P := Tryz.prog) t w
  have g1 : (1 : Int) ≤ (n : Int) := by omega
  have g2 : (n : Int) ≤ 512 := by omega
  go_enter Tryz.func6, Tryz.ntmps6
  go_wp2
  go_ret2
  refine ⟨_, rfl, ⟨_, _, _, diskIn_new w n h1 h2 C hC.out, ?_, ?_, ?_, ?_, ?_⟩, ?_⟩
  · simp; omega
  · simp; omega
  · simp
  · intro k hk; cases hk
  · intro k hk; exact hk.2
  · exact (((Below.refl _ _).alloc (Nat.le_refl _) _).alloc (by simp) _).alloc (by simp; omega) _
end Go.Proofs.YtdmkkfpbgpijjaaGreat
