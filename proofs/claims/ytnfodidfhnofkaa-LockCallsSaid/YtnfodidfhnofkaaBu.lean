/- lock: Keys, Held; the keys that Free looks for. -/
import Derived.Test.YtnfodidfhnofkaaBt
import Derived.Deep.Onto
namespace Go.Proofs.Ytnfodidfhnofkaa
open Go.RowKit Go.Deep Go.Maps Go.Sort Go.Lib

theorem entersKeys : ∀ args w, (callFunc 50 args).run Try.prog w = .ok (.enter 50 args) w := Go.Proofs.enters_of Try.func50 (by kernel_rfl) rfl
theorem entersHeld : ∀ args w, (callFunc 51 args).run Try.prog w = .ok (.enter 51 args) w := Go.Proofs.enters_of Try.func51 (by kernel_rfl) rfl
theorem entersFree : ∀ args w, (callFunc 43 args).run Try.prog w = .ok (.enter 43 args) w := Go.Proofs.enters_of Try.func43 (by kernel_rfl) rfl
set_option maxRecDepth 100000 in
set_option maxHeartbeats 1000000 in
theorem clo_held (W : World) (v : Value) (r : PRow) (hr : RowAt W v r) : Calls Try.prog 51 #[v] W fun e w' => e = .returned (.bool true) ∧ Below W.heap.size W w' := by
  obtain ⟨A, n, c, A', n', c', rfl, rfl, rfl⟩ := hr.parts
  clear hr
  go_enter Try.func51, Try.ntmps51
  go_wp2_with fail
  go_ret
  exact ⟨rfl, (Below.refl _ W).alloc (Nat.le_refl _) _⟩
set_option maxRecDepth 100000 in
set_option maxHeartbeats 1000000 in
theorem clo_keys (tx : Int) (xb : Nat) (W : World) (v : Value) (r : PRow) (hr : RowAt W v r) (hx : W.cell? ⟨xb, 0, none⟩ = some (.int .i64 tx)) : Calls Try.prog 50 #[v, .pointer (some ⟨xb, 0, none⟩)] W fun e w' => e = .returned (.bool (decide (howH r.hs tx ≠ 0))) ∧ Below W.heap.size W w' := by
  obtain ⟨A, n, c, A', n', c', rfl, rfl, rfl⟩ := hr.parts
  have hxl := World.block_lt_of_cell? W _ hx
  have HH := Lib.hid hr.hold
  clear hr
  obtain ⟨q, hq⟩ : ∃ q, howH r.hs tx = q := ⟨_, rfl⟩
  have HQ := Lib.hid hq
  rw [hq]
  clear hq
  go_enter Try.func50, Try.ntmps50
  go_wp2_with fail
  have hV : Below W.heap.size W (W.alloc (.cells #[.slice A r.hs.length c, .slice A' r.ws.length c'] 64)) := (Below.refl _ W).alloc (Nat.le_refl _) _
  generalize W.alloc (.cells #[.slice A r.hs.length c, .slice A' r.ws.length c'] 64) = V at *
  refine (how_any (.slice A r.hs.length c) (.slice A' r.ws.length c') r.hs tx q V (HH.out.below hV) HQ.out).mono ?_
  rintro e w1 ⟨rfl, hb⟩
  have HB := Lib.hid (hV.trans (hb.mono hV.size))
  clear hb hV
  have hne : decide (q ≠ 0) = (q != 0) := by by_cases e : q = 0 <;> simp [e]
  have HNE := Lib.hid hne
  clear hne
  go_wp2_with fail
  go_ret
  exact ⟨by rw [HNE.out]; rfl, HB.out⟩
theorem keysL_any (F : Nat → Prop) (tb m : Nat) (st : PS) (w : World) (h : LockAt w F tb m st) (hm : m ≤ 10000) (tx : Int) (xb : Nat) (hx : w.cell? ⟨xb, 0, none⟩ = some (.int .i64 tx)) :
    Calls Try.prog 42 #[.pointer (some ⟨tb, 0, none⟩), .func (.func 50) #[] #[.pointer (some ⟨xb, 0, none⟩)]] w fun e w' => ∃ v l, e = .returned v ∧ KeysAt w' w.heap.size v l ∧ KeysL st (fun r => decide (howH r.hs tx ≠ 0)) l ∧ Below w.heap.size w w' :=
  keysWhere_any F tb m st w h hm _ _ _ entersKeys fun W v r hb hr _ => clo_keys tx xb W v r hr ((hb.cell (p := ⟨xb, 0, none⟩) (World.block_lt_of_cell? w _ hx)).trans hx)
theorem heldL_any (F : Nat → Prop) (tb m : Nat) (st : PS) (w : World) (h : LockAt w F tb m st) (hm : m ≤ 10000) :
    Calls Try.prog 42 #[.pointer (some ⟨tb, 0, none⟩), .func (.func 51) #[] #[]] w fun e w' => ∃ v l, e = .returned v ∧ KeysAt w' w.heap.size v l ∧ KeysL st (fun _ => true) l ∧ Below w.heap.size w w' :=
  keysWhere_any F tb m st w h hm _ _ _ entersHeld fun W v r _ hr _ => clo_held W v r hr
theorem LockAt.alloc {w : World} {F : Nat → Prop} {tb m : Nat} {st : PS} (h : LockAt w F tb m st) (o : Obj) : LockAt (w.alloc o) F tb m st := h.below ((Below.refl _ w).alloc (Nat.le_refl _) o)
set_option maxRecDepth 100000 in
set_option maxHeartbeats 1000000 in
theorem keys_any (F : Nat → Prop) (tb m : Nat) (st : PS) (tx : Int) (w : World) (h : LockAt w F tb m st) (hm : m ≤ 10000) :
    Calls Try.prog 24 #[.pointer (some ⟨tb, 0, none⟩), .int .i64 tx] w fun e w' => ∃ v l, e = .returned v ∧ KeysAt w' w.heap.size v l ∧ KeysL st (fun r => decide (howH r.hs tx ≠ 0)) l ∧ Below w.heap.size w w' := by
  have HC := Lib.hid (keysL_any F tb m st _ (h.alloc (.cells #[.int .i64 tx] 3)) hm tx w.heap.size (by rw [World.cell?_alloc_new]; rfl))
  clear h
  go_enter Try.func24, Try.ntmps24
  go_wp2_with fail
  refine HC.out.mono ?_
  rintro e w1 ⟨v, l, rfl, h1, h2, h3⟩
  go_wp2_with fail
  go_ret
  refine ⟨_, l, rfl, ?_, h2, ((Below.refl _ w).alloc (Nat.le_refl _) _).trans (h3.mono (by simp))⟩
  exact Go.World.ownsRow.mono h1 (by simp)
set_option maxRecDepth 100000 in
set_option maxHeartbeats 1000000 in
theorem held_any (F : Nat → Prop) (tb m : Nat) (st : PS) (w : World) (h : LockAt w F tb m st) (hm : m ≤ 10000) :
    Calls Try.prog 26 #[.pointer (some ⟨tb, 0, none⟩)] w fun e w' => ∃ v l, e = .returned v ∧ KeysAt w' w.heap.size v l ∧ KeysL st (fun _ => true) l ∧ Below w.heap.size w w' := by
  have HC := Lib.hid (heldL_any F tb m st w h hm)
  clear h
  go_enter Try.func26, Try.ntmps26
  go_wp2_with fail
  refine HC.out.mono ?_
  rintro e w1 ⟨v, l, rfl, h1, h2, h3⟩
  go_wp2_with fail
  go_ret
  exact ⟨_, l, rfl, h1, h2, h3⟩
/-- slices.Contains of those that wait. -/
theorem contains_ws (wv : Value) (ws : List Int) (tx : Int) (b : Bool) (w : World) (h : WaitAt w wv ws) (hb : decide (tx ∈ ws) = b) : Calls Try.prog 44 #[wv, .int .i64 tx] w fun e w' => e = .returned (.bool b) ∧ w' = w := by
  rcases h with ⟨rfl, rfl⟩ | ⟨g, off, cap, cur, rfl, hh, h1, h2, h3, h4, h5⟩
  · simp at hb
    subst hb
    exact Try.slices_Contains_int_empty none 0 tx w
  · have hc := Try.slices_Contains_int g off ws.length cap ws tx w (Nat.le_refl _) (by unfold maxLen at h2; omega) (fun j hj => by
      rw [cell_of_row w g (off + j) cur _ _ hh, h5 j _ (List.getElem?_eq_getElem hj), List.getD_eq_getElem?_getD, List.getElem?_eq_getElem hj]
      rfl)
    rw [List.take_length, show ws.contains tx = b by rw [← hb]; simp] at hc
    exact hc
set_option maxRecDepth 100000 in
set_option maxHeartbeats 1000000 in
theorem clo_free (tx : Int) (xb : Nat) (W : World) (v : Value) (r : PRow) (hr : RowAt W v r) (hx : W.cell? ⟨xb, 0, none⟩ = some (.int .i64 tx)) : Calls Try.prog 43 #[v, .pointer (some ⟨xb, 0, none⟩)] W fun e w' => e = .returned (.bool (decide (howH r.hs tx ≠ 0) || decide (tx ∈ r.ws))) ∧ Below W.heap.size W w' := by
  obtain ⟨A, n, c, A', n', c', rfl, rfl, rfl⟩ := hr.parts
  have hxl := World.block_lt_of_cell? W _ hx
  have HH := Lib.hid hr.hold
  have HW := Lib.hid hr.wait
  clear hr
  obtain ⟨q, hq⟩ : ∃ q, howH r.hs tx = q := ⟨_, rfl⟩
  obtain ⟨b, hb0⟩ : ∃ b, decide (tx ∈ r.ws) = b := ⟨_, rfl⟩
  have HQ := Lib.hid hq
  have HB0 := Lib.hid hb0
  rw [hq, hb0]
  clear hq hb0
  go_enter Try.func43, Try.ntmps43
  go_wp2_with fail
  have hV : Below W.heap.size W (W.alloc (.cells #[.slice A r.hs.length c, .slice A' r.ws.length c'] 64)) := (Below.refl _ W).alloc (Nat.le_refl _) _
  have hV1 : (W.alloc (.cells #[.slice A r.hs.length c, .slice A' r.ws.length c'] 64)).cell? ⟨W.heap.size, 1, none⟩ = some (.slice A' r.ws.length c') := by rw [World.cell?_alloc_new]; rfl
  have hVs : W.heap.size < (W.alloc (.cells #[.slice A r.hs.length c, .slice A' r.ws.length c'] 64)).heap.size := by simp
  generalize W.alloc (.cells #[.slice A r.hs.length c, .slice A' r.ws.length c'] 64) = V at *
  have hx1 : V.cell? ⟨xb, 0, none⟩ = some (.int .i64 tx) := (hV.cell (p := ⟨xb, 0, none⟩) hxl).trans hx
  have hxv : xb < V.heap.size := by omega
  refine (how_any (.slice A r.hs.length c) (.slice A' r.ws.length c') r.hs tx q V (HH.out.below hV) HQ.out).mono ?_
  rintro e w1 ⟨rfl, hb⟩
  have HB := Lib.hid (hV.trans (hb.mono hV.size))
  have c1 := (hb.cell (p := ⟨W.heap.size, 1, none⟩) hVs).trans hV1
  have cx := (hb.cell (p := ⟨xb, 0, none⟩) hxv).trans hx1
  have HW1 := Lib.hid ((HW.out.below hV).below hb)
  clear hb hV hV1 hVs hx1 hxv
  cases hq0 : (q != 0) with
  | true =>
    have hne : (decide (q ≠ 0) || b) = true := by
      have : decide (q ≠ 0) = true := by simpa using hq0
      rw [this, Bool.true_or]
    have HNE := Lib.hid hne
    clear hne
    go_wp2_with fail
    go_ret
    exact ⟨by rw [HNE.out]; rfl, HB.out⟩
  | false =>
    have hne : (decide (q ≠ 0) || b) = b := by
      have : decide (q ≠ 0) = false := by simpa using hq0
      rw [this, Bool.false_or]
    have HNE := Lib.hid hne
    clear hne
    go_wp2_with (go_at_call 44; refine (contains_ws _ _ tx b _ HW1.out HB0.out).mono ?_; rintro e w' ⟨rfl, rfl⟩)
    go_ret
    exact ⟨by rw [HNE.out]; rfl, HB.out⟩
theorem freeL_any (F : Nat → Prop) (tb m : Nat) (st : PS) (w : World) (h : LockAt w F tb m st) (hm : m ≤ 10000) (tx : Int) (xb : Nat) (hx : w.cell? ⟨xb, 0, none⟩ = some (.int .i64 tx)) :
    Calls Try.prog 42 #[.pointer (some ⟨tb, 0, none⟩), .func (.func 43) #[] #[.pointer (some ⟨xb, 0, none⟩)]] w fun e w' => ∃ v l, e = .returned v ∧ KeysAt w' w.heap.size v l ∧ KeysL st (fun r => decide (howH r.hs tx ≠ 0) || decide (tx ∈ r.ws)) l ∧ Below w.heap.size w w' :=
  keysWhere_any F tb m st w h hm _ _ _ entersFree fun W v r hb hr _ => clo_free tx xb W v r hr ((hb.cell (p := ⟨xb, 0, none⟩) (World.block_lt_of_cell? w _ hx)).trans hx)
end Go.Proofs.Ytnfodidfhnofkaa
