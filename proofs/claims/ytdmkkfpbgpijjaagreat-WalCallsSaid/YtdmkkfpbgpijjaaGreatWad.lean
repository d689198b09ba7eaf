/- The document's own Right: for every record. -/
import Derived.Test.YtdmkkfpbgpijjaaGreatWac
namespace Go.Proofs.YtdmkkfpbgpijjaaGreat
open Go.RowKit Go.Deep

set_option maxRecDepth 100000 in
set_option maxHeartbeats 400000 in
theorem refValue_any (t : Bool) (n : Int) (b : Bool) (hb : okVal t n = b) (w : World) : Calls Tryz.prog 93 #[.agg #[.bool t, .int .i64 n]] w fun e w' => e = .returned (.bool b) ∧ Below w.heap.size w w' := by
  subst hb
  cases t
  all_goals
    go_enter Tryz.func93, Tryz.ntmps93
    go_wp2
    go_ret
    exact ⟨rfl, (Below.refl _ _).alloc (Nat.le_refl _) _⟩
set_option maxRecDepth 100000 in
set_option maxHeartbeats 1000000 in
theorem refRight_2 (r : RecD) (hk : r.kind = 2) (b : Bool) (hb : rightB r = b) (w : World) : Calls Tryz.prog 76 #[recV r] w fun e w' => e = .returned (.bool b) ∧ Below w.heap.size w w' := by
  obtain ⟨kind, tx, mask, k0, k1, k2, k3, oT, oN, nT, nN⟩ := r
  dsimp only at hk
  subst hk
  simp [rightB] at hb
  rw [recV_eq]
  dsimp only
  cases h3 : eqR ⟨2, tx, mask, k0, k1, k2, k3, oT, oN, nT, nN⟩ ⟨2, tx, mask, 0, 0, 0, 0, false, 0, false, 0⟩ <;> rw [h3] at hb
  · simp at hb; subst hb
    go_enter Tryz.func76, Tryz.ntmps76
    go_wp2_with (first | refine wpList_eqR (by rfl) _ _ rfl ⟨2, tx, mask, k0, k1, k2, k3, oT, oN, nT, nN⟩ ⟨2, tx, mask, 0, 0, 0, 0, false, 0, false, 0⟩ (by rfl) (by rfl) _ h3 ?_)
    go_ret
    refine ⟨rfl, ?_⟩
    repeat first | exact Below.refl _ _ | refine Below.setCell ?_ (by first | exact Nat.le_refl _ | simp | (simp; omega)) _ | refine Below.alloc ?_ (by first | exact Nat.le_refl _ | simp | (simp; omega)) _
  · by_cases h1 : 1 ≤ tx
    · by_cases h2 : tx ≤ 1048576
      · simp [okTx, h1, h2] at hb
        cases h4 : ((mask : Int) != 0) <;> rw [h4] at hb <;> subst hb
        all_goals
          go_enter Tryz.func76, Tryz.ntmps76
          go_wp2_with (first | refine wpList_eqR (by rfl) _ _ rfl ⟨2, tx, mask, k0, k1, k2, k3, oT, oN, nT, nN⟩ ⟨2, tx, mask, 0, 0, 0, 0, false, 0, false, 0⟩ (by rfl) (by rfl) _ h3 ?_)
          go_ret
          refine ⟨rfl, ?_⟩
          repeat first | exact Below.refl _ _ | refine Below.setCell ?_ (by first | exact Nat.le_refl _ | simp | (simp; omega)) _ | refine Below.alloc ?_ (by first | exact Nat.le_refl _ | simp | (simp; omega)) _
      · simp [okTx, h2] at hb; subst hb
        go_enter Tryz.func76, Tryz.ntmps76
        go_wp2_with (first | refine wpList_eqR (by rfl) _ _ rfl ⟨2, tx, mask, k0, k1, k2, k3, oT, oN, nT, nN⟩ ⟨2, tx, mask, 0, 0, 0, 0, false, 0, false, 0⟩ (by rfl) (by rfl) _ h3 ?_)
        go_ret
        refine ⟨rfl, ?_⟩
        repeat first | exact Below.refl _ _ | refine Below.setCell ?_ (by first | exact Nat.le_refl _ | simp | (simp; omega)) _ | refine Below.alloc ?_ (by first | exact Nat.le_refl _ | simp | (simp; omega)) _
    · simp [okTx, h1] at hb; subst hb
      go_enter Tryz.func76, Tryz.ntmps76
      go_wp2_with (first | refine wpList_eqR (by rfl) _ _ rfl ⟨2, tx, mask, k0, k1, k2, k3, oT, oN, nT, nN⟩ ⟨2, tx, mask, 0, 0, 0, 0, false, 0, false, 0⟩ (by rfl) (by rfl) _ h3 ?_)
      go_ret
      refine ⟨rfl, ?_⟩
      repeat first | exact Below.refl _ _ | refine Below.setCell ?_ (by first | exact Nat.le_refl _ | simp | (simp; omega)) _ | refine Below.alloc ?_ (by first | exact Nat.le_refl _ | simp | (simp; omega)) _
set_option maxRecDepth 100000 in
set_option maxHeartbeats 1000000 in
theorem refRight_3 (r : RecD) (hk : r.kind = 3) (b : Bool) (hb : rightB r = b) (w : World) : Calls Tryz.prog 76 #[recV r] w fun e w' => e = .returned (.bool b) ∧ Below w.heap.size w w' := by
  obtain ⟨kind, tx, mask, k0, k1, k2, k3, oT, oN, nT, nN⟩ := r
  dsimp only at hk
  subst hk
  simp [rightB] at hb
  rw [recV_eq]
  dsimp only
  cases h3 : eqR ⟨3, tx, mask, k0, k1, k2, k3, oT, oN, nT, nN⟩ ⟨3, tx, 0, 0, 0, 0, 0, false, 0, false, 0⟩ <;> rw [h3] at hb
  · simp at hb; subst hb
    go_enter Tryz.func76, Tryz.ntmps76
    go_wp2_with (first | refine wpList_eqR (by rfl) _ _ rfl ⟨3, tx, mask, k0, k1, k2, k3, oT, oN, nT, nN⟩ ⟨3, tx, 0, 0, 0, 0, 0, false, 0, false, 0⟩ (by rfl) (by rfl) _ h3 ?_)
    go_ret
    refine ⟨rfl, ?_⟩
    repeat first | exact Below.refl _ _ | refine Below.setCell ?_ (by first | exact Nat.le_refl _ | simp | (simp; omega)) _ | refine Below.alloc ?_ (by first | exact Nat.le_refl _ | simp | (simp; omega)) _
  · by_cases h1 : 1 ≤ tx
    · by_cases h2 : tx ≤ 1048576
      · simp [okTx, h1, h2] at hb; subst hb
        go_enter Tryz.func76, Tryz.ntmps76
        go_wp2_with (first | refine wpList_eqR (by rfl) _ _ rfl ⟨3, tx, mask, k0, k1, k2, k3, oT, oN, nT, nN⟩ ⟨3, tx, 0, 0, 0, 0, 0, false, 0, false, 0⟩ (by rfl) (by rfl) _ h3 ?_)
        go_ret
        refine ⟨rfl, ?_⟩
        repeat first | exact Below.refl _ _ | refine Below.setCell ?_ (by first | exact Nat.le_refl _ | simp | (simp; omega)) _ | refine Below.alloc ?_ (by first | exact Nat.le_refl _ | simp | (simp; omega)) _
      · simp [okTx, h2] at hb; subst hb
        go_enter Tryz.func76, Tryz.ntmps76
        go_wp2_with (first | refine wpList_eqR (by rfl) _ _ rfl ⟨3, tx, mask, k0, k1, k2, k3, oT, oN, nT, nN⟩ ⟨3, tx, 0, 0, 0, 0, 0, false, 0, false, 0⟩ (by rfl) (by rfl) _ h3 ?_)
        go_ret
        refine ⟨rfl, ?_⟩
        repeat first | exact Below.refl _ _ | refine Below.setCell ?_ (by first | exact Nat.le_refl _ | simp | (simp; omega)) _ | refine Below.alloc ?_ (by first | exact Nat.le_refl _ | simp | (simp; omega)) _
    · simp [okTx, h1] at hb; subst hb
      go_enter Tryz.func76, Tryz.ntmps76
      go_wp2_with (first | refine wpList_eqR (by rfl) _ _ rfl ⟨3, tx, mask, k0, k1, k2, k3, oT, oN, nT, nN⟩ ⟨3, tx, 0, 0, 0, 0, 0, false, 0, false, 0⟩ (by rfl) (by rfl) _ h3 ?_)
      go_ret
      refine ⟨rfl, ?_⟩
      repeat first | exact Below.refl _ _ | refine Below.setCell ?_ (by first | exact Nat.le_refl _ | simp | (simp; omega)) _ | refine Below.alloc ?_ (by first | exact Nat.le_refl _ | simp | (simp; omega)) _
set_option maxRecDepth 100000 in
set_option maxHeartbeats 1000000 in
theorem refRight_4 (r : RecD) (hk : r.kind = 4) (b : Bool) (hb : rightB r = b) (w : World) : Calls Tryz.prog 76 #[recV r] w fun e w' => e = .returned (.bool b) ∧ Below w.heap.size w w' := by
  obtain ⟨kind, tx, mask, k0, k1, k2, k3, oT, oN, nT, nN⟩ := r
  dsimp only at hk
  subst hk
  simp [rightB] at hb
  rw [recV_eq]
  dsimp only
  cases h3 : eqR ⟨4, tx, mask, k0, k1, k2, k3, oT, oN, nT, nN⟩ ⟨4, tx, 0, 0, 0, 0, 0, false, 0, false, 0⟩ <;> rw [h3] at hb
  · simp at hb; subst hb
    go_enter Tryz.func76, Tryz.ntmps76
    go_wp2_with (first | refine wpList_eqR (by rfl) _ _ rfl ⟨4, tx, mask, k0, k1, k2, k3, oT, oN, nT, nN⟩ ⟨4, tx, 0, 0, 0, 0, 0, false, 0, false, 0⟩ (by rfl) (by rfl) _ h3 ?_)
    go_ret
    refine ⟨rfl, ?_⟩
    repeat first | exact Below.refl _ _ | refine Below.setCell ?_ (by first | exact Nat.le_refl _ | simp | (simp; omega)) _ | refine Below.alloc ?_ (by first | exact Nat.le_refl _ | simp | (simp; omega)) _
  · by_cases h1 : 1 ≤ tx
    · by_cases h2 : tx ≤ 1048576
      · simp [okTx, h1, h2] at hb; subst hb
        go_enter Tryz.func76, Tryz.ntmps76
        go_wp2_with (first | refine wpList_eqR (by rfl) _ _ rfl ⟨4, tx, mask, k0, k1, k2, k3, oT, oN, nT, nN⟩ ⟨4, tx, 0, 0, 0, 0, 0, false, 0, false, 0⟩ (by rfl) (by rfl) _ h3 ?_)
        go_ret
        refine ⟨rfl, ?_⟩
        repeat first | exact Below.refl _ _ | refine Below.setCell ?_ (by first | exact Nat.le_refl _ | simp | (simp; omega)) _ | refine Below.alloc ?_ (by first | exact Nat.le_refl _ | simp | (simp; omega)) _
      · simp [okTx, h2] at hb; subst hb
        go_enter Tryz.func76, Tryz.ntmps76
        go_wp2_with (first | refine wpList_eqR (by rfl) _ _ rfl ⟨4, tx, mask, k0, k1, k2, k3, oT, oN, nT, nN⟩ ⟨4, tx, 0, 0, 0, 0, 0, false, 0, false, 0⟩ (by rfl) (by rfl) _ h3 ?_)
        go_ret
        refine ⟨rfl, ?_⟩
        repeat first | exact Below.refl _ _ | refine Below.setCell ?_ (by first | exact Nat.le_refl _ | simp | (simp; omega)) _ | refine Below.alloc ?_ (by first | exact Nat.le_refl _ | simp | (simp; omega)) _
    · simp [okTx, h1] at hb; subst hb
      go_enter Tryz.func76, Tryz.ntmps76
      go_wp2_with (first | refine wpList_eqR (by rfl) _ _ rfl ⟨4, tx, mask, k0, k1, k2, k3, oT, oN, nT, nN⟩ ⟨4, tx, 0, 0, 0, 0, 0, false, 0, false, 0⟩ (by rfl) (by rfl) _ h3 ?_)
      go_ret
      refine ⟨rfl, ?_⟩
      repeat first | exact Below.refl _ _ | refine Below.setCell ?_ (by first | exact Nat.le_refl _ | simp | (simp; omega)) _ | refine Below.alloc ?_ (by first | exact Nat.le_refl _ | simp | (simp; omega)) _
set_option maxRecDepth 100000 in
set_option maxHeartbeats 1000000 in
theorem refRight_5 (r : RecD) (hk : r.kind = 5) (b : Bool) (hb : rightB r = b) (w : World) : Calls Tryz.prog 76 #[recV r] w fun e w' => e = .returned (.bool b) ∧ Below w.heap.size w w' := by
  obtain ⟨kind, tx, mask, k0, k1, k2, k3, oT, oN, nT, nN⟩ := r
  dsimp only at hk
  subst hk
  simp [rightB] at hb
  rw [recV_eq]
  dsimp only
  cases h3 : eqR ⟨5, tx, mask, k0, k1, k2, k3, oT, oN, nT, nN⟩ ⟨5, tx, 0, 0, 0, 0, 0, false, 0, false, 0⟩ <;> rw [h3] at hb
  · simp at hb; subst hb
    go_enter Tryz.func76, Tryz.ntmps76
    go_wp2_with (first | refine wpList_eqR (by rfl) _ _ rfl ⟨5, tx, mask, k0, k1, k2, k3, oT, oN, nT, nN⟩ ⟨5, tx, 0, 0, 0, 0, 0, false, 0, false, 0⟩ (by rfl) (by rfl) _ h3 ?_)
    go_ret
    refine ⟨rfl, ?_⟩
    repeat first | exact Below.refl _ _ | refine Below.setCell ?_ (by first | exact Nat.le_refl _ | simp | (simp; omega)) _ | refine Below.alloc ?_ (by first | exact Nat.le_refl _ | simp | (simp; omega)) _
  · by_cases h1 : 1 ≤ tx
    · by_cases h2 : tx ≤ 1048576
      · simp [okTx, h1, h2] at hb; subst hb
        go_enter Tryz.func76, Tryz.ntmps76
        go_wp2_with (first | refine wpList_eqR (by rfl) _ _ rfl ⟨5, tx, mask, k0, k1, k2, k3, oT, oN, nT, nN⟩ ⟨5, tx, 0, 0, 0, 0, 0, false, 0, false, 0⟩ (by rfl) (by rfl) _ h3 ?_)
        go_ret
        refine ⟨rfl, ?_⟩
        repeat first | exact Below.refl _ _ | refine Below.setCell ?_ (by first | exact Nat.le_refl _ | simp | (simp; omega)) _ | refine Below.alloc ?_ (by first | exact Nat.le_refl _ | simp | (simp; omega)) _
      · simp [okTx, h2] at hb; subst hb
        go_enter Tryz.func76, Tryz.ntmps76
        go_wp2_with (first | refine wpList_eqR (by rfl) _ _ rfl ⟨5, tx, mask, k0, k1, k2, k3, oT, oN, nT, nN⟩ ⟨5, tx, 0, 0, 0, 0, 0, false, 0, false, 0⟩ (by rfl) (by rfl) _ h3 ?_)
        go_ret
        refine ⟨rfl, ?_⟩
        repeat first | exact Below.refl _ _ | refine Below.setCell ?_ (by first | exact Nat.le_refl _ | simp | (simp; omega)) _ | refine Below.alloc ?_ (by first | exact Nat.le_refl _ | simp | (simp; omega)) _
    · simp [okTx, h1] at hb; subst hb
      go_enter Tryz.func76, Tryz.ntmps76
      go_wp2_with (first | refine wpList_eqR (by rfl) _ _ rfl ⟨5, tx, mask, k0, k1, k2, k3, oT, oN, nT, nN⟩ ⟨5, tx, 0, 0, 0, 0, 0, false, 0, false, 0⟩ (by rfl) (by rfl) _ h3 ?_)
      go_ret
      refine ⟨rfl, ?_⟩
      repeat first | exact Below.refl _ _ | refine Below.setCell ?_ (by first | exact Nat.le_refl _ | simp | (simp; omega)) _ | refine Below.alloc ?_ (by first | exact Nat.le_refl _ | simp | (simp; omega)) _
set_option maxRecDepth 100000 in
set_option maxHeartbeats 1000000 in
theorem refRight_6 (r : RecD) (hk : r.kind = 6) (b : Bool) (hb : rightB r = b) (w : World) : Calls Tryz.prog 76 #[recV r] w fun e w' => e = .returned (.bool b) ∧ Below w.heap.size w w' := by
  obtain ⟨kind, tx, mask, k0, k1, k2, k3, oT, oN, nT, nN⟩ := r
  dsimp only at hk
  subst hk
  simp [rightB] at hb
  rw [recV_eq]
  dsimp only
  cases h3 : eqR ⟨6, tx, mask, k0, k1, k2, k3, oT, oN, nT, nN⟩ ⟨6, tx, 0, 0, 0, 0, 0, false, 0, false, 0⟩ <;> rw [h3] at hb
  · simp at hb; subst hb
    go_enter Tryz.func76, Tryz.ntmps76
    go_wp2_with (first | refine wpList_eqR (by rfl) _ _ rfl ⟨6, tx, mask, k0, k1, k2, k3, oT, oN, nT, nN⟩ ⟨6, tx, 0, 0, 0, 0, 0, false, 0, false, 0⟩ (by rfl) (by rfl) _ h3 ?_)
    go_ret
    refine ⟨rfl, ?_⟩
    repeat first | exact Below.refl _ _ | refine Below.setCell ?_ (by first | exact Nat.le_refl _ | simp | (simp; omega)) _ | refine Below.alloc ?_ (by first | exact Nat.le_refl _ | simp | (simp; omega)) _
  · by_cases h1 : 1 ≤ tx
    · by_cases h2 : tx ≤ 1048576
      · simp [okTx, h1, h2] at hb; subst hb
        go_enter Tryz.func76, Tryz.ntmps76
        go_wp2_with (first | refine wpList_eqR (by rfl) _ _ rfl ⟨6, tx, mask, k0, k1, k2, k3, oT, oN, nT, nN⟩ ⟨6, tx, 0, 0, 0, 0, 0, false, 0, false, 0⟩ (by rfl) (by rfl) _ h3 ?_)
        go_ret
        refine ⟨rfl, ?_⟩
        repeat first | exact Below.refl _ _ | refine Below.setCell ?_ (by first | exact Nat.le_refl _ | simp | (simp; omega)) _ | refine Below.alloc ?_ (by first | exact Nat.le_refl _ | simp | (simp; omega)) _
      · simp [okTx, h2] at hb; subst hb
        go_enter Tryz.func76, Tryz.ntmps76
        go_wp2_with (first | refine wpList_eqR (by rfl) _ _ rfl ⟨6, tx, mask, k0, k1, k2, k3, oT, oN, nT, nN⟩ ⟨6, tx, 0, 0, 0, 0, 0, false, 0, false, 0⟩ (by rfl) (by rfl) _ h3 ?_)
        go_ret
        refine ⟨rfl, ?_⟩
        repeat first | exact Below.refl _ _ | refine Below.setCell ?_ (by first | exact Nat.le_refl _ | simp | (simp; omega)) _ | refine Below.alloc ?_ (by first | exact Nat.le_refl _ | simp | (simp; omega)) _
    · simp [okTx, h1] at hb; subst hb
      go_enter Tryz.func76, Tryz.ntmps76
      go_wp2_with (first | refine wpList_eqR (by rfl) _ _ rfl ⟨6, tx, mask, k0, k1, k2, k3, oT, oN, nT, nN⟩ ⟨6, tx, 0, 0, 0, 0, 0, false, 0, false, 0⟩ (by rfl) (by rfl) _ h3 ?_)
      go_ret
      refine ⟨rfl, ?_⟩
      repeat first | exact Below.refl _ _ | refine Below.setCell ?_ (by first | exact Nat.le_refl _ | simp | (simp; omega)) _ | refine Below.alloc ?_ (by first | exact Nat.le_refl _ | simp | (simp; omega)) _
set_option maxRecDepth 100000 in
set_option maxHeartbeats 1000000 in
theorem refRight_7 (r : RecD) (hk : r.kind = 7) (b : Bool) (hb : rightB r = b) (w : World) : Calls Tryz.prog 76 #[recV r] w fun e w' => e = .returned (.bool b) ∧ Below w.heap.size w w' := by
  obtain ⟨kind, tx, mask, k0, k1, k2, k3, oT, oN, nT, nN⟩ := r
  dsimp only at hk
  subst hk
  simp [rightB] at hb
  rw [recV_eq]
  dsimp only
  cases nT
  · cases h3 : eqR ⟨7, tx, mask, k0, k1, k2, k3, oT, oN, false, nN⟩ ⟨7, 0, 0, k0, k1, k2, k3, false, 0, false, nN⟩
    · simp at hb; subst hb
      go_enter Tryz.func76, Tryz.ntmps76
      go_wp2_with (first | refine wpList_eqR (by rfl) _ _ rfl ⟨7, tx, mask, k0, k1, k2, k3, oT, oN, false, nN⟩ ⟨7, 0, 0, k0, k1, k2, k3, false, 0, false, nN⟩ (by rfl) (by rfl) _ h3 ?_)
      go_ret
      refine ⟨rfl, ?_⟩
      repeat first | exact Below.refl _ _ | refine Below.setCell ?_ (by first | exact Nat.le_refl _ | simp | (simp; omega)) _ | refine Below.alloc ?_ (by first | exact Nat.le_refl _ | simp | (simp; omega)) _
    · simp at hb; subst hb
      go_enter Tryz.func76, Tryz.ntmps76
      go_wp2_with (first | refine wpList_eqR (by rfl) _ _ rfl ⟨7, tx, mask, k0, k1, k2, k3, oT, oN, false, nN⟩ ⟨7, 0, 0, k0, k1, k2, k3, false, 0, false, nN⟩ (by rfl) (by rfl) _ h3 ?_)
      go_ret
      refine ⟨rfl, ?_⟩
      repeat first | exact Below.refl _ _ | refine Below.setCell ?_ (by first | exact Nat.le_refl _ | simp | (simp; omega)) _ | refine Below.alloc ?_ (by first | exact Nat.le_refl _ | simp | (simp; omega)) _
  · cases h3 : eqR ⟨7, tx, mask, k0, k1, k2, k3, oT, oN, true, nN⟩ ⟨7, 0, 0, k0, k1, k2, k3, false, 0, true, nN⟩
    · simp [h3] at hb; subst hb
      go_enter Tryz.func76, Tryz.ntmps76
      go_wp2_with (first | refine wpList_eqR (by rfl) _ _ rfl ⟨7, tx, mask, k0, k1, k2, k3, oT, oN, true, nN⟩ ⟨7, 0, 0, k0, k1, k2, k3, false, 0, true, nN⟩ (by rfl) (by rfl) _ h3 ?_)
      go_ret
      refine ⟨rfl, ?_⟩
      repeat first | exact Below.refl _ _ | refine Below.setCell ?_ (by first | exact Nat.le_refl _ | simp | (simp; omega)) _ | refine Below.alloc ?_ (by first | exact Nat.le_refl _ | simp | (simp; omega)) _
    · simp [h3] at hb; subst hb
      go_enter Tryz.func76, Tryz.ntmps76
      go_wp2_with (first | refine wpList_eqR (by rfl) _ _ rfl ⟨7, tx, mask, k0, k1, k2, k3, oT, oN, true, nN⟩ ⟨7, 0, 0, k0, k1, k2, k3, false, 0, true, nN⟩ (by rfl) (by rfl) _ h3 ?_)
      go_ret
      refine ⟨rfl, ?_⟩
      repeat first | exact Below.refl _ _ | refine Below.setCell ?_ (by first | exact Nat.le_refl _ | simp | (simp; omega)) _ | refine Below.alloc ?_ (by first | exact Nat.le_refl _ | simp | (simp; omega)) _
set_option maxRecDepth 100000 in
set_option maxHeartbeats 1000000 in
theorem refRight_8 (r : RecD) (hk : r.kind = 8) (b : Bool) (hb : rightB r = b) (w : World) : Calls Tryz.prog 76 #[recV r] w fun e w' => e = .returned (.bool b) ∧ Below w.heap.size w w' := by
  obtain ⟨kind, tx, mask, k0, k1, k2, k3, oT, oN, nT, nN⟩ := r
  dsimp only at hk
  subst hk
  simp [rightB] at hb
  rw [recV_eq]
  dsimp only
  cases h3 : eqR ⟨8, tx, mask, k0, k1, k2, k3, oT, oN, nT, nN⟩ ⟨8, 0, mask, 0, 0, 0, 0, false, 0, false, 0⟩ <;> rw [h3] at hb
  · simp at hb; subst hb
    go_enter Tryz.func76, Tryz.ntmps76
    go_wp2_with (first | refine wpList_eqR (by rfl) _ _ rfl ⟨8, tx, mask, k0, k1, k2, k3, oT, oN, nT, nN⟩ ⟨8, 0, mask, 0, 0, 0, 0, false, 0, false, 0⟩ (by rfl) (by rfl) _ h3 ?_)
    go_ret
    refine ⟨rfl, ?_⟩
    repeat first | exact Below.refl _ _ | refine Below.setCell ?_ (by first | exact Nat.le_refl _ | simp | (simp; omega)) _ | refine Below.alloc ?_ (by first | exact Nat.le_refl _ | simp | (simp; omega)) _
  · cases h2 : decide ((mask : Int) ≤ 64) <;> rw [h2] at hb <;> simp at hb <;> subst hb
    all_goals
      go_enter Tryz.func76, Tryz.ntmps76
      go_wp2_with (first | refine wpList_eqR (by rfl) _ _ rfl ⟨8, tx, mask, k0, k1, k2, k3, oT, oN, nT, nN⟩ ⟨8, 0, mask, 0, 0, 0, 0, false, 0, false, 0⟩ (by rfl) (by rfl) _ h3 ?_)
      go_ret
      refine ⟨rfl, ?_⟩
      repeat first | exact Below.refl _ _ | refine Below.setCell ?_ (by first | exact Nat.le_refl _ | simp | (simp; omega)) _ | refine Below.alloc ?_ (by first | exact Nat.le_refl _ | simp | (simp; omega)) _
set_option maxRecDepth 100000 in
set_option maxHeartbeats 1000000 in
theorem refRight_1 (r : RecD) (hk : r.kind = 1) (b : Bool) (hb : rightB r = b) (w : World) : Calls Tryz.prog 76 #[recV r] w fun e w' => e = .returned (.bool b) ∧ Below w.heap.size w w' := by
  obtain ⟨kind, tx, mask, k0, k1, k2, k3, oT, oN, nT, nN⟩ := r
  dsimp only at hk
  subst hk
  simp [rightB] at hb
  rw [recV_eq]
  dsimp only
  by_cases h1 : 1 ≤ tx
  · by_cases h2 : tx ≤ 1048576
    · simp [okTx, h1, h2] at hb
      cases h4 : ((mask : Int) == 0) <;> rw [h4] at hb
      · simp at hb; subst hb
        go_enter Tryz.func76, Tryz.ntmps76
        go_wp2_with (first | (go_at_call 93; with_reducible refine (refValue_any oT oN _ h3 _).mono ?_; rintro e w1 ⟨rfl, kb⟩; obtain ⟨kc, kf⟩ := bcell kb))
        go_ret
        refine ⟨rfl, ?_⟩
        repeat first | exact Below.refl _ _ | refine Below.setCell ?_ (by first | exact Nat.le_refl _ | simp | (simp; omega)) _ | refine Below.alloc ?_ (by first | exact Nat.le_refl _ | simp | (simp; omega)) _
      · cases h3 : okVal oT oN <;> rw [h3] at hb
        · simp at hb; subst hb
          go_enter Tryz.func76, Tryz.ntmps76
          go_wp2_with (first | (go_at_call 93; with_reducible refine (refValue_any oT oN _ h3 _).mono ?_; rintro e w1 ⟨rfl, kb⟩; obtain ⟨kc, kf⟩ := bcell kb))
          go_ret
          exact ⟨rfl, (((Below.refl _ _).alloc (Nat.le_refl _) _).alloc (by simp) _).trans (kb.mono (by simp; omega))⟩
        · cases h5 : okVal nT nN <;> rw [h5] at hb <;> simp at hb <;> subst hb
          all_goals
            go_enter Tryz.func76, Tryz.ntmps76
            go_wp2_with (first | (go_at_call 93; with_reducible refine (refValue_any oT oN _ h3 _).mono ?_; rintro e w1 ⟨rfl, kb⟩; obtain ⟨kc, kf⟩ := bcell kb) | (go_at_call 93; with_reducible refine (refValue_any nT nN _ h5 _).mono ?_; rintro e w2 ⟨rfl, kb2⟩))
            go_ret
            exact ⟨rfl, ((((Below.refl _ _).alloc (Nat.le_refl _) _).alloc (by simp) _).trans (kb.mono (by simp; omega))).trans (kb2.mono (by have := kb.size; simp at this; omega))⟩
    · simp [okTx, h2] at hb; subst hb
      go_enter Tryz.func76, Tryz.ntmps76
      go_wp2
      go_ret
      refine ⟨rfl, ?_⟩
      repeat first | exact Below.refl _ _ | refine Below.setCell ?_ (by first | exact Nat.le_refl _ | simp | (simp; omega)) _ | refine Below.alloc ?_ (by first | exact Nat.le_refl _ | simp | (simp; omega)) _
  · simp [okTx, h1] at hb; subst hb
    go_enter Tryz.func76, Tryz.ntmps76
    go_wp2
    go_ret
    refine ⟨rfl, ?_⟩
    repeat first | exact Below.refl _ _ | refine Below.setCell ?_ (by first | exact Nat.le_refl _ | simp | (simp; omega)) _ | refine Below.alloc ?_ (by first | exact Nat.le_refl _ | simp | (simp; omega)) _
set_option maxRecDepth 100000 in
set_option maxHeartbeats 1000000 in
theorem refRight_none (r : RecD) (h1 : (r.kind == 1) = false) (h2 : (r.kind == 2) = false) (h3 : (r.kind == 3) = false) (h4 : (r.kind == 4) = false) (h5 : (r.kind == 5) = false) (h6 : (r.kind == 6) = false) (h7 : (r.kind == 7) = false) (h8 : (r.kind == 8) = false) (w : World) : Calls Tryz.prog 76 #[recV r] w fun e w' => e = .returned (.bool false) ∧ Below w.heap.size w w' := by
  obtain ⟨kind, tx, mask, k0, k1, k2, k3, oT, oN, nT, nN⟩ := r
  dsimp only at *
  rw [recV_eq]
  dsimp only
  go_enter Tryz.func76, Tryz.ntmps76
  go_wp2
  go_ret
  refine ⟨rfl, ?_⟩
  repeat first | exact Below.refl _ _ | refine Below.setCell ?_ (by first | exact Nat.le_refl _ | simp | (simp; omega)) _ | refine Below.alloc ?_ (by first | exact Nat.le_refl _ | simp | (simp; omega)) _
theorem refRight_any (r : RecD) (b : Bool) (hb : rightB r = b) (w : World) : Calls Tryz.prog 76 #[recV r] w fun e w' => e = .returned (.bool b) ∧ Below w.heap.size w w' := by
  by_cases c1 : r.kind = 1
  · exact refRight_1 r c1 b hb w
  by_cases c2 : r.kind = 2
  · exact refRight_2 r c2 b hb w
  by_cases c3 : r.kind = 3
  · exact refRight_3 r c3 b hb w
  by_cases c4 : r.kind = 4
  · exact refRight_4 r c4 b hb w
  by_cases c5 : r.kind = 5
  · exact refRight_5 r c5 b hb w
  by_cases c6 : r.kind = 6
  · exact refRight_6 r c6 b hb w
  by_cases c7 : r.kind = 7
  · exact refRight_7 r c7 b hb w
  by_cases c8 : r.kind = 8
  · exact refRight_8 r c8 b hb w
  have e : rightB r = false := by simp [rightB, c1, c2, c3, c4, c5, c6, c7, c8]
  rw [e] at hb
  subst hb
  exact refRight_none r (by simpa using c1) (by simpa using c2) (by simpa using c3) (by simpa using c4) (by simpa using c5) (by simpa using c6) (by simpa using c7) (by simpa using c8) w
end Go.Proofs.YtdmkkfpbgpijjaaGreat
