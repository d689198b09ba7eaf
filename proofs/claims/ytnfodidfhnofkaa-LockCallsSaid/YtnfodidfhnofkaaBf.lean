/- A row of locks in memory; its closures. -/
import Derived.Test.YtnfodidfhnofkaaBe
import Derived.Deep.MidRow
import Derived.Deep.LoopGhost
import Derived.Lib.SlBy
namespace Go.Proofs.Ytnfodidfhnofkaa
open Go.RowKit Go.Deep Go.Maps

/-- w' is w but for the blocks F, and new ones. -/
structure Moves (F : Nat → Prop) (w w' : World) : Prop where
  os : w'.os = w.os
  tape : w'.tape = w.tape
  output : w'.output = w.output
  size : w.heap.size ≤ w'.heap.size
  block : ∀ k, k < w.heap.size → ¬ F k → w'.heap[k]? = w.heap[k]?
theorem Moves.refl (F : Nat → Prop) (w : World) : Moves F w w := ⟨rfl, rfl, rfl, Nat.le_refl _, fun _ _ _ => rfl⟩
theorem Moves.below {F : Nat → Prop} {w w' : World} {B : Nat} (h : Moves F w w') (hB : B ≤ w.heap.size) (hF : ∀ k, F k → B ≤ k) : Below B w w' :=
  ⟨h.os, h.tape, h.output, h.size, fun k hk => h.block k (by omega) (fun e => by have := hF k e; omega)⟩
theorem moves_of_below {F : Nat → Prop} {w w' : World} (h : Below w.heap.size w w') : Moves F w w' := ⟨h.os, h.tape, h.output, h.size, fun k hk _ => h.block k hk⟩
theorem moves_of_grown {F : Nat → Prop} {w w' : World} {row : Option Nat} (h : w.grownBy w' row) (hF : ∀ k, row = some k → F k) : Moves F w w' :=
  ⟨h.os, h.tape, h.output, h.size, fun k hk hn => h.block k hk (fun e => hn (hF k e.symm))⟩
theorem Moves.trans {F F' : Nat → Prop} {a b c : World} (h : Moves F a b) (k : Moves F' b c) (hF : ∀ i, F' i → F i ∨ a.heap.size ≤ i) : Moves F a c :=
  ⟨k.os.trans h.os, k.tape.trans h.tape, k.output.trans h.output, Nat.le_trans h.size k.size, fun i hi hn => (k.block i (Nat.lt_of_lt_of_le hi h.size) (fun e => (hF i e).elim hn (fun g => by omega))).trans (h.block i hi hn)⟩
theorem Moves.mono {F F' : Nat → Prop} {a b : World} (h : Moves F a b) (hF : ∀ i, F i → F' i) : Moves F' a b := ⟨h.os, h.tape, h.output, h.size, fun k hk hn => h.block k hk (fun e => hn (hF k e))⟩
theorem moves_setCell (F : Nat → Prop) (w : World) (a : Addr) (v : Value) (h : F a.block) : Moves F w (w.setCell a v) := by
  have hb := (Below.refl 0 w).setCell (Nat.zero_le a.block) v
  exact ⟨hb.os, hb.tape, hb.output, hb.size, fun k _ hn => RowKit.Below.heap_setCell _ _ _ _ (fun e => hn (e ▸ h))⟩
/-- The blocks that are F, or new between w and w'. -/
def grow (F : Nat → Prop) (w w' : World) (k : Nat) : Prop := F k ∨ (w.heap.size ≤ k ∧ k < w'.heap.size)

/-! ### the parts of a row -/
def hc (p : Int × Int) : List Value := [.int .i64 p.1, .int .i64 p.2]
def HoldAt (w : World) (hv : Value) (hs : List (Int × Int)) : Prop := w.ownsRow 0 83 2 hv hs.length (hs.flatMap hc)
/-- Those who wait: a slice that need not begin where its block does. -/
def WaitAt (w : World) (wv : Value) (ws : List Int) : Prop :=
  (wv = .slice none 0 0 ∧ ws = []) ∨ ∃ g off cap cur, wv = .slice (some ⟨g, off, none⟩) ws.length cap ∧ w.heap[g]? = some (.cells cur 3 (0, 0)) ∧ ws.length ≤ cap ∧ cap ≤ maxLen ∧ 0 < cur.size ∧ off + cap ≤ cur.size ∧ ∀ j v, ws[j]? = some v → cur[off + j]? = some (.int .i64 v)
theorem HoldAt.kept {w w' : World} {hv : Value} {hs : List (Int × Int)} (h : HoldAt w hv hs) (hb : ∀ k, hv.ownBlock = some k → w'.heap[k]? = w.heap[k]?) : HoldAt w' hv hs := by
  refine ⟨h.1, ?_⟩
  rcases h.2 with h0 | ⟨g, cap, cur, rfl, h2, h3, h4⟩
  · exact .inl h0
  · exact .inr ⟨g, cap, cur, rfl, h2, (hb g rfl).trans h3, h4⟩
theorem WaitAt.kept {w w' : World} {wv : Value} {ws : List Int} (h : WaitAt w wv ws) (hb : ∀ k, wv.ownBlock = some k → w'.heap[k]? = w.heap[k]?) : WaitAt w' wv ws := by
  rcases h with h0 | ⟨g, off, cap, cur, rfl, h3, h4⟩
  · exact .inl h0
  · exact .inr ⟨g, off, cap, cur, rfl, (hb g rfl).trans h3, h4⟩
theorem HoldAt.lt {w : World} {hv : Value} {hs : List (Int × Int)} (h : HoldAt w hv hs) : ∀ k, hv.ownBlock = some k → k < w.heap.size := fun k hk => (World.ownsRow.lt h k hk).2
theorem WaitAt.lt {w : World} {wv : Value} {ws : List Int} (h : WaitAt w wv ws) : ∀ k, wv.ownBlock = some k → k < w.heap.size := fun k hk => by
  rcases h with ⟨rfl, _⟩ | ⟨g, off, cap, cur, rfl, h3, _⟩
  · cases hk
  · simp only [Value.ownBlock, Option.some.injEq] at hk
    subst hk
    exact (Array.getElem?_eq_some_iff.1 h3).1
theorem HoldAt.below {w w' : World} {hv : Value} {hs : List (Int × Int)} (h : HoldAt w hv hs) (hb : Below w.heap.size w w') : HoldAt w' hv hs := h.kept fun k hk => hb.block k (h.lt k hk)
theorem WaitAt.below {w w' : World} {wv : Value} {ws : List Int} (h : WaitAt w wv ws) (hb : Below w.heap.size w w') : WaitAt w' wv ws := h.kept fun k hk => hb.block k (h.lt k hk)
theorem HoldAt.nil (w : World) : HoldAt w (.slice none 0 0) [] := ⟨rfl, .inl ⟨rfl, rfl⟩⟩
theorem WaitAt.nil (w : World) : WaitAt w (.slice none 0 0) [] := .inl ⟨rfl, rfl⟩
theorem HoldAt.isSlice {w : World} {hv : Value} {hs : List (Int × Int)} (h : HoldAt w hv hs) : ∃ A c, hv = .slice A hs.length c := by
  rcases h.2 with ⟨rfl, e⟩ | ⟨g, cap, _, rfl, _⟩
  · exact ⟨none, 0, by rw [e]⟩
  · exact ⟨_, _, rfl⟩
theorem WaitAt.isSlice {w : World} {wv : Value} {ws : List Int} (h : WaitAt w wv ws) : ∃ A c, wv = .slice A ws.length c := by
  rcases h with ⟨rfl, rfl⟩ | ⟨g, off, cap, _, rfl, _⟩
  · exact ⟨none, 0, rfl⟩
  · exact ⟨_, _, rfl⟩
theorem flat_hc_len (hs : List (Int × Int)) : (hs.flatMap hc).length = hs.length * 2 := by
  induction hs with
  | nil => rfl
  | cons p t ih => rw [List.flatMap_cons, List.length_append, ih, List.length_cons]; simp [hc]; omega
theorem flat_hc_at : ∀ (hs : List (Int × Int)) (i : Nat) (p : Int × Int), hs[i]? = some p → (hs.flatMap hc)[i * 2]? = some (.int .i64 p.1) ∧ (hs.flatMap hc)[i * 2 + 1]? = some (.int .i64 p.2)
  | [], i, p, h => by simp at h
  | q :: t, 0, p, h => by
    simp at h; subst h
    exact ⟨rfl, rfl⟩
  | q :: t, i + 1, p, h => by
    have := flat_hc_at t i p (by simpa using h)
    rw [List.flatMap_cons, show (i + 1) * 2 = 2 + i * 2 by omega]
    rw [List.getElem?_append_right (by simp [hc]), List.getElem?_append_right (by simp [hc]; omega)]
    simpa [hc, show 2 + i * 2 + 1 - 2 = i * 2 + 1 by omega, show 2 + i * 2 - 2 = i * 2 by omega] using this
/-- What a slice of holders is: nil and empty, or a block whose cells are known. -/
theorem HoldAt.out {w : World} {hv : Value} {hs : List (Int × Int)} (h : HoldAt w hv hs) : (hv = .slice none 0 0 ∧ hs = []) ∨ ∃ g cap, hv = .slice (some ⟨g, 0, none⟩) hs.length cap ∧ hs.length ≤ cap ∧ cap ≤ maxLen ∧ g < w.heap.size ∧
    ∀ i p, hs[i]? = some p → w.cell? ⟨g, i * 2, none⟩ = some (.int .i64 p.1) ∧ w.cell? ⟨g, i * 2 + 1, none⟩ = some (.int .i64 p.2) := by
  rcases h.2 with ⟨rfl, hn⟩ | ⟨g, cap, cur, rfl, _, hh, hnc, hcm, hsz, htk⟩
  · exact .inl ⟨rfl, List.eq_nil_of_length_eq_zero hn⟩
  · refine .inr ⟨g, cap, rfl, hnc, hcm, (Array.getElem?_eq_some_iff.1 hh).1, fun i p hp => ?_⟩
    obtain ⟨e1, e2⟩ := flat_hc_at hs i p hp
    have hc1 := World.ownsRow.cells h (g := g) rfl (i * 2) _ e1
    have hc2 := World.ownsRow.cells h (g := g) rfl (i * 2 + 1) _ e2
    rw [Go.WideShapes.add_plain] at hc1 hc2
    simp only [Nat.zero_add] at hc1 hc2
    exact ⟨hc1, hc2⟩
theorem WaitAt.out {w : World} {wv : Value} {ws : List Int} (h : WaitAt w wv ws) : (wv = .slice none 0 0 ∧ ws = []) ∨ ∃ g off cap, wv = .slice (some ⟨g, off, none⟩) ws.length cap ∧ ws.length ≤ cap ∧ cap ≤ maxLen ∧ g < w.heap.size ∧
    ∀ i v, ws[i]? = some v → w.cell? ⟨g, off + i, none⟩ = some (.int .i64 v) := by
  rcases h with h0 | ⟨g, off, cap, cur, rfl, hh, h1, h2, h3, h4, h5⟩
  · exact .inl h0
  · refine .inr ⟨g, off, cap, rfl, h1, h2, (Array.getElem?_eq_some_iff.1 hh).1, fun i v hv => ?_⟩
    rw [cell_of_row w g (off + i) cur _ _ hh]
    exact h5 i v hv

/-! ### IndexFunc, of holders and of numbers: the predicate may lay blocks -/
def PredB {α : Type} (g : Nat) (lb : Array Value) (enc : α → Value) (p : α → Bool) (zs : List α) (w : World) : Prop :=
  ∀ (W : World) (x : α), x ∈ zs → Below w.heap.size w W → Calls Try.prog g (#[enc x] ++ lb) W fun e w' => e = .returned (.bool (p x)) ∧ Below w.heap.size w w'
def idxF {α : Type} (p : α → Bool) (l : List α) : Int := if placeOf p l < l.length then (placeOf p l : Int) else -1
theorem placeOf_le {α : Type} (p : α → Bool) : ∀ l : List α, placeOf p l ≤ l.length
  | [] => Nat.le_refl _
  | x :: t => by unfold placeOf; split; omega; have := placeOf_le p t; simp; omega
theorem placeOf_lt {α : Type} {p : α → Bool} : ∀ {l : List α} {x : α}, x ∈ l → p x = true → placeOf p l < l.length
  | [], x, h, _ => by cases h
  | y :: t, x, h, hp => by
    unfold placeOf
    split
    · simp
    · rename_i hy
      rcases List.mem_cons.1 h with rfl | h
      · exact absurd hp hy
      · have := placeOf_lt h hp; simp; exact this
theorem placeOf_ahead {α : Type} {p : α → Bool} : ∀ {l : List α} {j : Nat} {y : α}, j < placeOf p l → l[j]? = some y → p y = false
  | [], j, y, _, h => by simp at h
  | x :: t, j, y, hj, h => by
    unfold placeOf at hj
    split at hj
    · exact absurd hj (Nat.not_lt_zero _)
    · rename_i hx
      cases j with
      | zero => simp at h; subst h; simpa using hx
      | succ j => exact placeOf_ahead (p := p) (l := t) (j := j) (by omega) (by simpa using h)
theorem idxF_ahead {α : Type} {p : α → Bool} {l : List α} {k j : Nat} {y : α} (h : idxF p l = (k : Int)) (hj : j < k) (hy : l[j]? = some y) : p y = false := by
  unfold idxF at h
  split at h
  · exact placeOf_ahead (p := p) (l := l) (by omega) hy
  · omega
theorem placeOf_hit {α : Type} {p : α → Bool} : ∀ {l : List α} {k : Nat} {x : α}, l[k]? = some x → p x = true → (∀ j y, j < k → l[j]? = some y → p y = false) → placeOf p l = k
  | [], k, x, h, _, _ => by simp at h
  | y :: t, 0, x, h, hp, _ => by simp at h; subst h; simp [placeOf, hp]
  | y :: t, k + 1, x, h, hp, hn => by
    unfold placeOf
    rw [if_neg (by rw [hn 0 y (by omega) rfl]; simp), placeOf_hit (by simpa using h) hp fun j z hj hz => hn (j + 1) z (by omega) (by simpa using hz)]
theorem placeOf_miss {α : Type} {p : α → Bool} : ∀ {l : List α}, (∀ y ∈ l, p y = false) → placeOf p l = l.length
  | [], _ => rfl
  | y :: t, h => by unfold placeOf; rw [if_neg (by rw [h y List.mem_cons_self]; simp), placeOf_miss fun z hz => h z (List.mem_cons_of_mem _ hz)]; rfl
theorem idxF_hit {α : Type} {p : α → Bool} {l : List α} {k : Nat} {x : α} (h : l[k]? = some x) (hp : p x = true) (hn : ∀ j y, j < k → l[j]? = some y → p y = false) : idxF p l = k := by
  have hk : k < l.length := (List.getElem?_eq_some_iff.1 h).1
  unfold idxF
  rw [placeOf_hit h hp hn, if_pos hk]
theorem idxF_miss {α : Type} {p : α → Bool} {l : List α} (hn : ∀ j y, j < l.length → l[j]? = some y → p y = false) : idxF p l = -1 := by
  unfold idxF
  rw [placeOf_miss fun y hy => by obtain ⟨j, hj⟩ := List.getElem?_of_mem hy; exact hn j y (List.getElem?_eq_some_iff.1 hj).1 hj, if_neg (Nat.lt_irrefl _)]
end Go.Proofs.Ytnfodidfhnofkaa
