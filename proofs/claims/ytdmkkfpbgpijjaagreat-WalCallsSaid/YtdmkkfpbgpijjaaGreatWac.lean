/- rec.Right: is a record right? For every record. -/
import Derived.Test.YtdmkkfpbgpijjaaGreatWab
namespace Go.Proofs.YtdmkkfpbgpijjaaGreat
open Go.RowKit Go.Deep

def okTx (t : Int) : Bool := decide (1 ≤ t) && decide (t ≤ 1048576)
def okVal (t : Bool) (n : Int) : Bool := t || n == 0
def rightB (r : RecD) : Bool :=
  if r.kind = 1 then okTx r.tx && (((r.mask : Int) == 0) && (okVal r.oT r.oN && okVal r.nT r.nN))
  else if r.kind = 2 then okTx r.tx && (((r.mask : Int) != 0) && eqR r ⟨r.kind, r.tx, r.mask, 0, 0, 0, 0, false, 0, false, 0⟩)
  else if r.kind = 3 ∨ r.kind = 4 ∨ r.kind = 5 ∨ r.kind = 6 then okTx r.tx && eqR r ⟨r.kind, r.tx, 0, 0, 0, 0, 0, false, 0, false, 0⟩
  else if r.kind = 7 then r.nT && eqR r ⟨r.kind, 0, 0, r.k0, r.k1, r.k2, r.k3, false, 0, r.nT, r.nN⟩
  else if r.kind = 8 then decide ((r.mask : Int) ≤ 64) && eqR r ⟨r.kind, 0, r.mask, 0, 0, 0, 0, false, 0, false, 0⟩
  else false

set_option maxRecDepth 100000 in
set_option maxHeartbeats 400000 in
theorem rightTx_any (t : Int) (b : Bool) (hb : okTx t = b) (w : World) : Calls Tryz.prog 99 #[.int .i64 t] w fun e w' => e = .returned (.bool b) ∧ w = w' := by
  subst hb
  by_cases h1 : 1 ≤ t
  · go_enter Tryz.func99, Tryz.ntmps99
    go_wp2
    go_ret
    exact ⟨by simp [okTx, h1], rfl⟩
  · go_enter Tryz.func99, Tryz.ntmps99
    go_wp2
    go_ret
    exact ⟨by simp [okTx, show ¬ 1 ≤ t by omega], rfl⟩
set_option maxRecDepth 100000 in
set_option maxHeartbeats 400000 in
theorem rightVal_any (t : Bool) (n : Int) (b : Bool) (hb : okVal t n = b) (w : World) : Calls Tryz.prog 100 #[.agg #[.bool t, .int .i64 n]] w fun e w' => e = .returned (.bool b) ∧ Below w.heap.size w w' := by
  subst hb
  cases t
  · go_enter Tryz.func100, Tryz.ntmps100
    go_wp2
    go_ret
    exact ⟨rfl, (Below.refl _ _).alloc (Nat.le_refl _) _⟩
  · go_enter Tryz.func100, Tryz.ntmps100
    go_wp2
    go_ret
    exact ⟨rfl, (Below.refl _ _).alloc (Nat.le_refl _) _⟩

set_option maxRecDepth 100000 in
set_option maxHeartbeats 1000000 in
theorem right_2 (r : RecD) (hk : r.kind = 2) (b : Bool) (hb : rightB r = b) (w : World) : Calls Tryz.prog 83 #[recV r] w fun e w' => e = .returned (.bool b) ∧ Below w.heap.size w w' := by
  obtain ⟨kind, tx, mask, k0, k1, k2, k3, oT, oN, nT, nN⟩ := r
  dsimp only at hk
  subst hk
  simp [rightB] at hb
  rw [recV_eq]
  dsimp only
  cases h1 : okTx tx <;> rw [h1] at hb
  · simp at hb; subst hb
    go_enter Tryz.func83, Tryz.ntmps83
    go_wp2_with (first | (go_at_call 99; refine (rightTx_any _ _ h1 _).mono ?_; rintro e w' ⟨rfl, rfl⟩))
    go_ret
    exact ⟨rfl, (Below.refl _ _).alloc (Nat.le_refl _) _⟩
  · cases h2 : ((mask : Int) != 0) <;> rw [h2] at hb
    · simp at hb; subst hb
      go_enter Tryz.func83, Tryz.ntmps83
      go_wp2_with (first | (go_at_call 99; refine (rightTx_any _ _ h1 _).mono ?_; rintro e w' ⟨rfl, rfl⟩))
      go_ret
      exact ⟨rfl, (Below.refl _ _).alloc (Nat.le_refl _) _⟩
    · cases h3 : eqR ⟨2, tx, mask, k0, k1, k2, k3, oT, oN, nT, nN⟩ ⟨2, tx, mask, 0, 0, 0, 0, false, 0, false, 0⟩ <;> rw [h3] at hb <;> simp at hb <;> subst hb
      all_goals
        go_enter Tryz.func83, Tryz.ntmps83
        go_wp2_with (first | (go_at_call 99; refine (rightTx_any _ _ h1 _).mono ?_; rintro e w' ⟨rfl, rfl⟩) | refine wpList_eqR (by rfl) _ _ rfl ⟨2, tx, mask, k0, k1, k2, k3, oT, oN, nT, nN⟩ ⟨2, tx, mask, 0, 0, 0, 0, false, 0, false, 0⟩ (by rfl) (by rfl) _ h3 ?_)
        go_ret
        exact ⟨rfl, (Below.refl _ _).alloc (Nat.le_refl _) _⟩
set_option maxRecDepth 100000 in
set_option maxHeartbeats 1000000 in
theorem right_3 (r : RecD) (hk : r.kind = 3) (b : Bool) (hb : rightB r = b) (w : World) : Calls Tryz.prog 83 #[recV r] w fun e w' => e = .returned (.bool b) ∧ Below w.heap.size w w' := by
  obtain ⟨kind, tx, mask, k0, k1, k2, k3, oT, oN, nT, nN⟩ := r
  dsimp only at hk
  subst hk
  simp [rightB] at hb
  rw [recV_eq]
  dsimp only
  cases h1 : okTx tx <;> rw [h1] at hb
  · simp at hb; subst hb
    go_enter Tryz.func83, Tryz.ntmps83
    go_wp2_with (first | (go_at_call 99; refine (rightTx_any _ _ h1 _).mono ?_; rintro e w' ⟨rfl, rfl⟩))
    go_ret
    exact ⟨rfl, (Below.refl _ _).alloc (Nat.le_refl _) _⟩
  · cases h3 : eqR ⟨3, tx, mask, k0, k1, k2, k3, oT, oN, nT, nN⟩ ⟨3, tx, 0, 0, 0, 0, 0, false, 0, false, 0⟩ <;> rw [h3] at hb <;> simp at hb <;> subst hb
    all_goals
      go_enter Tryz.func83, Tryz.ntmps83
      go_wp2_with (first | (go_at_call 99; refine (rightTx_any _ _ h1 _).mono ?_; rintro e w' ⟨rfl, rfl⟩) | refine wpList_eqR (by rfl) _ _ rfl ⟨3, tx, mask, k0, k1, k2, k3, oT, oN, nT, nN⟩ ⟨3, tx, 0, 0, 0, 0, 0, false, 0, false, 0⟩ (by rfl) (by rfl) _ h3 ?_)
      go_ret
      exact ⟨rfl, (Below.refl _ _).alloc (Nat.le_refl _) _⟩
set_option maxRecDepth 100000 in
set_option maxHeartbeats 1000000 in
theorem right_4 (r : RecD) (hk : r.kind = 4) (b : Bool) (hb : rightB r = b) (w : World) : Calls Tryz.prog 83 #[recV r] w fun e w' => e = .returned (.bool b) ∧ Below w.heap.size w w' := by
  obtain ⟨kind, tx, mask, k0, k1, k2, k3, oT, oN, nT, nN⟩ := r
  dsimp only at hk
  subst hk
  simp [rightB] at hb
  rw [recV_eq]
  dsimp only
  cases h1 : okTx tx <;> rw [h1] at hb
  · simp at hb; subst hb
    go_enter Tryz.func83, Tryz.ntmps83
    go_wp2_with (first | (go_at_call 99; refine (rightTx_any _ _ h1 _).mono ?_; rintro e w' ⟨rfl, rfl⟩))
    go_ret
    exact ⟨rfl, (Below.refl _ _).alloc (Nat.le_refl _) _⟩
  · cases h3 : eqR ⟨4, tx, mask, k0, k1, k2, k3, oT, oN, nT, nN⟩ ⟨4, tx, 0, 0, 0, 0, 0, false, 0, false, 0⟩ <;> rw [h3] at hb <;> simp at hb <;> subst hb
    all_goals
      go_enter Tryz.func83, Tryz.ntmps83
      go_wp2_with (first | (go_at_call 99; refine (rightTx_any _ _ h1 _).mono ?_; rintro e w' ⟨rfl, rfl⟩) | refine wpList_eqR (by rfl) _ _ rfl ⟨4, tx, mask, k0, k1, k2, k3, oT, oN, nT, nN⟩ ⟨4, tx, 0, 0, 0, 0, 0, false, 0, false, 0⟩ (by rfl) (by rfl) _ h3 ?_)
      go_ret
      exact ⟨rfl, (Below.refl _ _).alloc (Nat.le_refl _) _⟩
set_option maxRecDepth 100000 in
set_option maxHeartbeats 1000000 in
theorem right_5 (r : RecD) (hk : r.kind = 5) (b : Bool) (hb : rightB r = b) (w : World) : Calls Tryz.prog 83 #[recV r] w fun e w' => e = .returned (.bool b) ∧ Below w.heap.size w w' := by
  obtain ⟨kind, tx, mask, k0, k1, k2, k3, oT, oN, nT, nN⟩ := r
  dsimp only at hk
  subst hk
  simp [rightB] at hb
  rw [recV_eq]
  dsimp only
  cases h1 : okTx tx <;> rw [h1] at hb
  · simp at hb; subst hb
    go_enter Tryz.func83, Tryz.ntmps83
    go_wp2_with (first | (go_at_call 99; refine (rightTx_any _ _ h1 _).mono ?_; rintro e w' ⟨rfl, rfl⟩))
    go_ret
    exact ⟨rfl, (Below.refl _ _).alloc (Nat.le_refl _) _⟩
  · cases h3 : eqR ⟨5, tx, mask, k0, k1, k2, k3, oT, oN, nT, nN⟩ ⟨5, tx, 0, 0, 0, 0, 0, false, 0, false, 0⟩ <;> rw [h3] at hb <;> simp at hb <;> subst hb
    all_goals
      go_enter Tryz.func83, Tryz.ntmps83
      go_wp2_with (first | (go_at_call 99; refine (rightTx_any _ _ h1 _).mono ?_; rintro e w' ⟨rfl, rfl⟩) | refine wpList_eqR (by rfl) _ _ rfl ⟨5, tx, mask, k0, k1, k2, k3, oT, oN, nT, nN⟩ ⟨5, tx, 0, 0, 0, 0, 0, false, 0, false, 0⟩ (by rfl) (by rfl) _ h3 ?_)
      go_ret
      exact ⟨rfl, (Below.refl _ _).alloc (Nat.le_refl _) _⟩
set_option maxRecDepth 100000 in
set_option maxHeartbeats 1000000 in
theorem right_6 (r : RecD) (hk : r.kind = 6) (b : Bool) (hb : rightB r = b) (w : World) : Calls Tryz.prog 83 #[recV r] w fun e w' => e = .returned (.bool b) ∧ Below w.heap.size w w' := by
  obtain ⟨kind, tx, mask, k0, k1, k2, k3, oT, oN, nT, nN⟩ := r
  dsimp only at hk
  subst hk
  simp [rightB] at hb
  rw [recV_eq]
  dsimp only
  cases h1 : okTx tx <;> rw [h1] at hb
  · simp at hb; subst hb
    go_enter Tryz.func83, Tryz.ntmps83
    go_wp2_with (first | (go_at_call 99; refine (rightTx_any _ _ h1 _).mono ?_; rintro e w' ⟨rfl, rfl⟩))
    go_ret
    exact ⟨rfl, (Below.refl _ _).alloc (Nat.le_refl _) _⟩
  · cases h3 : eqR ⟨6, tx, mask, k0, k1, k2, k3, oT, oN, nT, nN⟩ ⟨6, tx, 0, 0, 0, 0, 0, false, 0, false, 0⟩ <;> rw [h3] at hb <;> simp at hb <;> subst hb
    all_goals
      go_enter Tryz.func83, Tryz.ntmps83
      go_wp2_with (first | (go_at_call 99; refine (rightTx_any _ _ h1 _).mono ?_; rintro e w' ⟨rfl, rfl⟩) | refine wpList_eqR (by rfl) _ _ rfl ⟨6, tx, mask, k0, k1, k2, k3, oT, oN, nT, nN⟩ ⟨6, tx, 0, 0, 0, 0, 0, false, 0, false, 0⟩ (by rfl) (by rfl) _ h3 ?_)
      go_ret
      exact ⟨rfl, (Below.refl _ _).alloc (Nat.le_refl _) _⟩
set_option maxRecDepth 100000 in
set_option maxHeartbeats 1000000 in
theorem right_7 (r : RecD) (hk : r.kind = 7) (b : Bool) (hb : rightB r = b) (w : World) : Calls Tryz.prog 83 #[recV r] w fun e w' => e = .returned (.bool b) ∧ Below w.heap.size w w' := by
  obtain ⟨kind, tx, mask, k0, k1, k2, k3, oT, oN, nT, nN⟩ := r
  dsimp only at hk
  subst hk
  simp [rightB] at hb
  rw [recV_eq]
  dsimp only
  cases nT
  · simp at hb; subst hb
    go_enter Tryz.func83, Tryz.ntmps83
    go_wp2
    go_ret
    exact ⟨rfl, (Below.refl _ _).alloc (Nat.le_refl _) _⟩
  · cases h3 : eqR ⟨7, tx, mask, k0, k1, k2, k3, oT, oN, true, nN⟩ ⟨7, 0, 0, k0, k1, k2, k3, false, 0, true, nN⟩ <;> rw [h3] at hb <;> simp at hb <;> subst hb
    all_goals
      go_enter Tryz.func83, Tryz.ntmps83
      go_wp2_with (first | refine wpList_eqR (by rfl) _ _ rfl ⟨7, tx, mask, k0, k1, k2, k3, oT, oN, true, nN⟩ ⟨7, 0, 0, k0, k1, k2, k3, false, 0, true, nN⟩ (by rfl) (by rfl) _ h3 ?_)
      go_ret
      exact ⟨rfl, (Below.refl _ _).alloc (Nat.le_refl _) _⟩
set_option maxRecDepth 100000 in
set_option maxHeartbeats 1000000 in
theorem right_8 (r : RecD) (hk : r.kind = 8) (b : Bool) (hb : rightB r = b) (w : World) : Calls Tryz.prog 83 #[recV r] w fun e w' => e = .returned (.bool b) ∧ Below w.heap.size w w' := by
  obtain ⟨kind, tx, mask, k0, k1, k2, k3, oT, oN, nT, nN⟩ := r
  dsimp only at hk
  subst hk
  simp [rightB] at hb
  rw [recV_eq]
  dsimp only
  cases h2 : decide ((mask : Int) ≤ 64) <;> rw [h2] at hb
  · simp at hb; subst hb
    go_enter Tryz.func83, Tryz.ntmps83
    go_wp2
    go_ret
    exact ⟨rfl, (Below.refl _ _).alloc (Nat.le_refl _) _⟩
  · cases h3 : eqR ⟨8, tx, mask, k0, k1, k2, k3, oT, oN, nT, nN⟩ ⟨8, 0, mask, 0, 0, 0, 0, false, 0, false, 0⟩ <;> rw [h3] at hb <;> simp at hb <;> subst hb
    all_goals
      go_enter Tryz.func83, Tryz.ntmps83
      go_wp2_with (first | refine wpList_eqR (by rfl) _ _ rfl ⟨8, tx, mask, k0, k1, k2, k3, oT, oN, nT, nN⟩ ⟨8, 0, mask, 0, 0, 0, 0, false, 0, false, 0⟩ (by rfl) (by rfl) _ h3 ?_)
      go_ret
      exact ⟨rfl, (Below.refl _ _).alloc (Nat.le_refl _) _⟩
set_option maxRecDepth 100000 in
set_option maxHeartbeats 1000000 in
theorem right_1 (r : RecD) (hk : r.kind = 1) (b : Bool) (hb : rightB r = b) (w : World) : Calls Tryz.prog 83 #[recV r] w fun e w' => e = .returned (.bool b) ∧ Below w.heap.size w w' := by
  obtain ⟨kind, tx, mask, k0, k1, k2, k3, oT, oN, nT, nN⟩ := r
  dsimp only at hk
  subst hk
  simp [rightB] at hb
  rw [recV_eq]
  dsimp only
  cases h1 : okTx tx <;> rw [h1] at hb
  · simp at hb; subst hb
    go_enter Tryz.func83, Tryz.ntmps83
    go_wp2_with (first | (go_at_call 99; refine (rightTx_any _ _ h1 _).mono ?_; rintro e w' ⟨rfl, rfl⟩))
    go_ret
    exact ⟨rfl, (Below.refl _ _).alloc (Nat.le_refl _) _⟩
  · cases h2 : ((mask : Int) == 0) <;> rw [h2] at hb
    · simp at hb; subst hb
      go_enter Tryz.func83, Tryz.ntmps83
      go_wp2_with (first | (go_at_call 99; refine (rightTx_any _ _ h1 _).mono ?_; rintro e w' ⟨rfl, rfl⟩))
      go_ret
      exact ⟨rfl, (Below.refl _ _).alloc (Nat.le_refl _) _⟩
    · cases h3 : okVal oT oN <;> rw [h3] at hb
      · simp at hb; subst hb
        go_enter Tryz.func83, Tryz.ntmps83
        go_wp2_with (first | (go_at_call 99; refine (rightTx_any _ _ h1 _).mono ?_; rintro e w' ⟨rfl, rfl⟩) | (go_at_call 100; with_reducible refine (rightVal_any oT oN _ h3 _).mono ?_; rintro e w1 ⟨rfl, kb⟩; obtain ⟨kc, kf⟩ := bcell kb))
        go_ret
        exact ⟨rfl, ((Below.refl _ _).alloc (Nat.le_refl _) _).trans (kb.mono (by simp))⟩
      · cases h4 : okVal nT nN <;> rw [h4] at hb <;> simp at hb <;> subst hb
        all_goals
          go_enter Tryz.func83, Tryz.ntmps83
          go_wp2_with (first | (go_at_call 99; refine (rightTx_any _ _ h1 _).mono ?_; rintro e w' ⟨rfl, rfl⟩) | (go_at_call 100; with_reducible refine (rightVal_any oT oN _ h3 _).mono ?_; rintro e w1 ⟨rfl, kb⟩; obtain ⟨kc, kf⟩ := bcell kb) | (go_at_call 100; with_reducible refine (rightVal_any nT nN _ h4 _).mono ?_; rintro e w2 ⟨rfl, kb2⟩))
          go_ret
          exact ⟨rfl, (((Below.refl _ _).alloc (Nat.le_refl _) _).trans (kb.mono (by simp))).trans (kb2.mono (by have := kb.size; simp at this; omega))⟩
set_option maxRecDepth 100000 in
set_option maxHeartbeats 1000000 in
theorem right_none (r : RecD) (h1 : (r.kind == 1) = false) (h2 : (r.kind == 2) = false) (h3 : (r.kind == 3) = false) (h4 : (r.kind == 4) = false) (h5 : (r.kind == 5) = false) (h6 : (r.kind == 6) = false) (h7 : (r.kind == 7) = false) (h8 : (r.kind == 8) = false) (w : World) : Calls Tryz.prog 83 #[recV r] w fun e w' => e = .returned (.bool false) ∧ Below w.heap.size w w' := by
  obtain ⟨kind, tx, mask, k0, k1, k2, k3, oT, oN, nT, nN⟩ := r
  dsimp only at *
  rw [recV_eq]
  dsimp only
  go_enter Tryz.func83, Tryz.ntmps83
  go_wp2
  go_ret
  exact ⟨rfl, (Below.refl _ _).alloc (Nat.le_refl _) _⟩
theorem right_any (r : RecD) (b : Bool) (hb : rightB r = b) (w : World) : Calls Tryz.prog 83 #[recV r] w fun e w' => e = .returned (.bool b) ∧ Below w.heap.size w w' := by
  by_cases c1 : r.kind = 1
  · exact right_1 r c1 b hb w
  by_cases c2 : r.kind = 2
  · exact right_2 r c2 b hb w
  by_cases c3 : r.kind = 3
  · exact right_3 r c3 b hb w
  by_cases c4 : r.kind = 4
  · exact right_4 r c4 b hb w
  by_cases c5 : r.kind = 5
  · exact right_5 r c5 b hb w
  by_cases c6 : r.kind = 6
  · exact right_6 r c6 b hb w
  by_cases c7 : r.kind = 7
  · exact right_7 r c7 b hb w
  by_cases c8 : r.kind = 8
  · exact right_8 r c8 b hb w
  have e : rightB r = false := by simp [rightB, c1, c2, c3, c4, c5, c6, c7, c8]
  rw [e] at hb
  subst hb
  exact right_none r (by simpa using c1) (by simpa using c2) (by simpa using c3) (by simpa using c4) (by simpa using c5) (by simpa using c6) (by simpa using c7) (by simpa using c8) w
end Go.Proofs.YtdmkkfpbgpijjaaGreat
