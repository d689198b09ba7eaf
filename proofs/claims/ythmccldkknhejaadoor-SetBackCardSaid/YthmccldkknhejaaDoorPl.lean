/- The pool: NewPool, Take, Many, Taken. -/
import Derived.Test.YthmccldkknhejaaDoorPk
namespace Go.Proofs.YthmccldkknhejaaDoor
open Go.RowKit
set_option linter.unusedVariables false

/-- A pool at block b, of which so many are taken. -/
def PoolAt (w : World) (b u : Nat) : Prop := Boxed w b 68 (.int .u64 u)
/-- Only block b, and new ones, have turned. -/
structure Turns (b : Nat) (w w' : World) : Prop where
  os : w'.os = w.os
  tape : w'.tape = w.tape
  output : w'.output = w.output
  size : w.heap.size ≤ w'.heap.size
  same : ∀ k, k < w.heap.size → k ≠ b → w'.heap[k]? = w.heap[k]?
theorem Turns.of_below {b : Nat} {w w' : World} (h : Below w.heap.size w w') : Turns b w w' := ⟨h.os, h.tape, h.output, h.size, fun k hk _ => h.block k hk⟩
theorem Turns.refl (b : Nat) (w : World) : Turns b w w := Turns.of_below (Below.refl _ _)
theorem Turns.trans {b : Nat} {w w1 w2 : World} (h : Turns b w w1) (k : Turns b w1 w2) : Turns b w w2 :=
  ⟨k.os.trans h.os, k.tape.trans h.tape, k.output.trans h.output, Nat.le_trans h.size k.size, fun i hi hne => (k.same i (Nat.lt_of_lt_of_le hi h.size) hne).trans (h.same i hi hne)⟩
theorem Turns.setCell {b : Nat} (w : World) (v : Value) : Turns b w (w.setCell ⟨b, 0, none⟩ v) := ⟨rfl, rfl, rfl, (by simp), fun k hk hne => Below.heap_setCell w _ v k hne⟩
/-- What lay below n₀ lies as it lay, if the pool lies beyond. -/
theorem Turns.below {b n₀ : Nat} {w w' : World} (h : Turns b w w') (hn : n₀ ≤ b) (hw : n₀ ≤ w.heap.size) : Below n₀ w w' :=
  ⟨h.os, h.tape, h.output, h.size, fun k hk => h.same k (by omega) (by omega)⟩

set_option maxRecDepth 100000 in
set_option maxHeartbeats 400000 in
theorem newPool_any (u : Nat) (w : World) : Calls Tryd.prog 26 #[.int .u64 u] w fun e w' => e = .returned (.pointer (some ⟨w.heap.size, 0, none⟩)) ∧ PoolAt w' w.heap.size u ∧ Below w.heap.size w w' := by
  go_enter Tryd.func26, Tryd.ntmps26
  go_wp2_with fail
  go_ret
  exact ⟨rfl, Boxed.new _ _ _, (Below.refl _ _).alloc (Nat.le_refl _) _⟩
set_option maxRecDepth 100000 in
set_option maxHeartbeats 400000 in
theorem taken_any (b u : Nat) (w : World) (h : PoolAt w b u) : Calls Tryd.prog 31 #[.pointer (some ⟨b, 0, none⟩)] w fun e w' => e = .returned (.int .u64 u) ∧ w = w' := by
  have hc := Boxed.cell h
  go_enter Tryd.func31, Tryd.ntmps31
  go_wp2_with fail
  go_ret
  exact ⟨rfl, rfl⟩
/-- What isn't taken. -/
def freeN (u : Nat) : Nat := 18446744073709551615 - u
theorem free_lt (u : Nat) : freeN u < 18446744073709551616 := Nat.lt_of_le_of_lt (Nat.sub_le _ _) (by decide)
/-- What Many answers, what is taken behind it, and the error's number. -/
def manyN (u : Nat) (n : Int) : Nat × Nat × Int :=
  if n < 0 ∨ 64 < n then (0, u, 11)
  else if ((cats (freeN u)).length : Int) < n then (0, u, 16)
  else (leastN (freeN u) n.toNat, u ||| leastN (freeN u) n.toNat, 0)
theorem many_lt (u : Nat) (n : Int) (hu : u < 18446744073709551616) : (manyN u n).1 < 18446744073709551616 ∧ (manyN u n).2.1 < 18446744073709551616 := by
  unfold manyN
  split
  · exact ⟨by simp, hu⟩
  · split
    · exact ⟨by simp, hu⟩
    · exact ⟨least_lt _ _, or_lt hu (least_lt _ _)⟩
set_option maxRecDepth 100000 in
set_option maxHeartbeats 1000000 in
theorem pool_many (b u s u' : Nat) (n err : Int) (hu : u < 18446744073709551616) (hm : manyN u n = (s, u', err)) (w : World) (hpool : PoolAt w b u) (hG : Gnd w) :
    Calls Tryd.prog 29 #[.pointer (some ⟨b, 0, none⟩), .int .i64 n] w fun e w' => e = .returned (.tuple #[.int .u64 s, .int .i64 err]) ∧ PoolAt w' b u' ∧ Turns b w w' := by
  have hc := Boxed.cell hpool
  have hf := Boxed.frozen hpool
  unfold manyN at hm
  by_cases hr : n < 0 ∨ 64 < n
  · rw [if_pos hr] at hm
    simp only [Prod.mk.injEq] at hm
    obtain ⟨rfl, rfl, rfl⟩ := hm
    have key : n < 0 ∨ (0 ≤ n ∧ 64 < n) := by omega
    clear hr
    rcases key with hr | ⟨hr, hr2⟩
    all_goals
      go_enter Tryd.func29, Tryd.ntmps29
      go_wp2_with fail
      go_ret2
      exact ⟨rfl, hpool, Turns.refl _ _⟩
  · rw [if_neg hr] at hm
    obtain ⟨k, rfl⟩ : ∃ k : Nat, n = k := ⟨n.toNat, by omega⟩
    have hk0 : ¬ ((k : Int) < 0) := by omega
    have hk1 : ¬ ((64 : Int) < (k : Int)) := by omega
    obtain ⟨f, hfr⟩ : ∃ f, freeN u = f := ⟨_, rfl⟩
    have hf2 : f < 18446744073709551616 := by rw [← hfr]; exact free_lt u
    have hnot := not_walk u f hu hfr
    rw [hfr, Int.toNat_natCast] at hm
    have cC := fun W => count_any f hf2 W
    rw [pc_cats hf2] at cC
    obtain ⟨m, hmm⟩ : ∃ m, (cats f).length = m := ⟨_, rfl⟩
    rw [hmm] at cC hm
    by_cases hlt : (m : Int) < (k : Int)
    · rw [if_pos hlt] at hm
      simp only [Prod.mk.injEq] at hm
      obtain ⟨rfl, rfl, rfl⟩ := hm
      clear hmm hfr hr hf2
      go_enter Tryd.func29, Tryd.ntmps29
      go_wp2_with fail
      refine (cC _).mono ?_
      rintro e w' ⟨rfl, rfl⟩
      go_wp2_with fail
      go_ret2
      exact ⟨rfl, hpool, Turns.refl _ _⟩
    · rw [if_neg hlt] at hm
      simp only [Prod.mk.injEq] at hm
      obtain ⟨h1, h2, rfl⟩ := hm
      have hs2 : s < 18446744073709551616 := by rw [← h1]; exact least_lt _ _
      have cL := fun W hT hg => callsIn_wide.1 (least_in 4 (Nat.le_refl _) f k s hf2 (by rw [hmm]; omega) h1 W hT hg)
      rw [h1] at h2
      have hor : bits .or .u64 (u : Int) (s : Int) = (u' : Int) := by rw [bits_or_u64_nat u s hu hs2, h2]
      clear hmm hfr hr hf2 h1 h2
      go_enter Tryd.func29, Tryd.ntmps29
      go_wp2_with fail
      refine (cC _).mono ?_
      rintro e w' ⟨rfl, rfl⟩
      go_wp2_with fail
      refine (cL _ hG.tab hG.lt).mono ?_
      rintro e w1 ⟨rfl, hb⟩
      have hp1 : PoolAt w1 b u := (hb.block b (Boxed.lt hpool)).trans hpool
      have hc1 := Boxed.cell hp1
      have hf1 := Boxed.frozen hp1
      go_wp2_with fail
      go_ret2
      exact ⟨rfl, Boxed.set _ hp1, (Turns.of_below hb).trans (Turns.setCell w1 _)⟩
/-- Take. -/
theorem pow_ctz (c : Nat) (h : c < 64) : Lib.ctz 64 (2 ^ c) = c := ctz_is (one_lt h) (by rw [bit_one]; simp) (fun i hi => by rw [bit_one]; simp; omega)
set_option maxRecDepth 100000 in
set_option maxHeartbeats 1000000 in
theorem pool_take (b u s u' c : Nat) (err : Int) (hu : u < 18446744073709551616) (hm : manyN u 1 = (s, u', err)) (hc : (if err = 0 then Lib.ctz 64 s else 0) = c) (w : World) (hpool : PoolAt w b u) (hG : Gnd w) (hgb : 0 < b) :
    Calls Tryd.prog 27 #[.pointer (some ⟨b, 0, none⟩)] w fun e w' => e = .returned (.tuple #[.int .i64 c, .int .i64 err]) ∧ PoolAt w' b u' ∧ Turns b w w' := by
  have cM := pool_many b u s u' 1 err hu hm w hpool hG
  have hs2 := (many_lt u 1 hu).1
  rw [hm] at hs2
  have hs2 : s < 18446744073709551616 := hs2
  have herr : err = 0 ∨ err = 16 := by
    unfold manyN at hm
    rw [if_neg (by omega)] at hm
    split at hm
    · simp only [Prod.mk.injEq] at hm; exact .inr hm.2.2.symm
    · simp only [Prod.mk.injEq] at hm; exact .inl hm.2.2.symm
  clear hm
  rcases herr with rfl | rfl
  · rw [if_pos rfl] at hc
    go_enter Tryd.func27, Tryd.ntmps27
    go_wp2_with fail
    refine cM.mono ?_
    rintro e w1 ⟨rfl, hp1, ht⟩
    have hT1 : Tab w1 := fun j hj => (World.cell?_of_block (a := ⟨0, j, none⟩) (ht.same _ hG.lt (by show 0 ≠ b; omega))).trans (hG.tab j hj)
    go_wp2_with fail
    refine (low_any s c hs2 hc w1 hT1).mono ?_
    rintro e w' ⟨rfl, rfl⟩
    go_wp2_with fail
    go_ret2
    exact ⟨rfl, hp1, ht⟩
  · rw [if_neg (by decide)] at hc
    subst hc
    go_enter Tryd.func27, Tryd.ntmps27
    go_wp2_with fail
    refine cM.mono ?_
    rintro e w1 ⟨rfl, hp1, ht⟩
    go_wp2_with fail
    go_ret2
    exact ⟨rfl, hp1, ht⟩
end Go.Proofs.YthmccldkknhejaaDoor
