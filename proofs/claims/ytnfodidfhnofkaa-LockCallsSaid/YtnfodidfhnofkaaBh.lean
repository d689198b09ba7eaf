/- A row of locks: place, how, mayGrant. -/
import Derived.Test.YtnfodidfhnofkaaBg
import Derived.Shelf.Abstract
namespace Go.Proofs.Ytnfodidfhnofkaa
open Go.RowKit Go.Deep Go.Maps

set_option maxRecDepth 100000 in
theorem clo_place (tb : Nat) (tx x1 x2 : Int) (W : World) (c0 : W.cell? ⟨tb, 0, none⟩ = some (.int .i64 tx)) :
    Calls Try.prog 73 #[.agg #[.int .i64 x1, .int .i64 x2], .pointer (some ⟨tb, 0, none⟩)] W fun e w' => e = .returned (.bool (x1 == tx)) ∧ Below W.heap.size W w' := by
  have hBW : tb < W.heap.size := World.block_lt_of_cell? W _ c0
  have hne : tb ≠ W.heap.size := by omega
  obtain ⟨q, hq⟩ : ∃ q, (x1 == tx) = q := ⟨_, rfl⟩
  rw [hq]
  go_enter Try.func73, Try.ntmps73
  go_wp2
  go_ret
  exact ⟨by simp, (Below.refl _ _).alloc (Nat.le_refl _) _⟩
theorem pred_place (tb : Nat) (tx : Int) (hs : List (Int × Int)) (w : World) (hB : tb < w.heap.size) (hcell : w.cell? ⟨tb, 0, none⟩ = some (.int .i64 tx)) :
    PredB 73 #[.pointer (some ⟨tb, 0, none⟩)] (fun x => .agg (hc x).toArray) (fun x => x.1 == tx) hs w := fun W x _ hb =>
  (clo_place tb tx x.1 x.2 W ((hb.cell (p := ⟨tb, 0, none⟩) hB).trans hcell)).mono fun _ _ h => ⟨h.1, hb.trans (h.2.mono hb.size)⟩
set_option maxRecDepth 100000 in
theorem clo_release (tb : Nat) (tx x1 x2 : Int) (W : World) (c0 : W.cell? ⟨tb, 0, none⟩ = some (.int .i64 tx)) :
    Calls Try.prog 66 #[.agg #[.int .i64 x1, .int .i64 x2], .pointer (some ⟨tb, 0, none⟩)] W fun e w' => e = .returned (.bool (x1 == tx)) ∧ Below W.heap.size W w' := by
  have hBW : tb < W.heap.size := World.block_lt_of_cell? W _ c0
  have hne : tb ≠ W.heap.size := by omega
  obtain ⟨q, hq⟩ : ∃ q, (x1 == tx) = q := ⟨_, rfl⟩
  rw [hq]
  go_enter Try.func66, Try.ntmps66
  go_wp2
  go_ret
  exact ⟨by simp, (Below.refl _ _).alloc (Nat.le_refl _) _⟩
theorem pred_release (tb : Nat) (tx : Int) (hs : List (Int × Int)) (w : World) (hB : tb < w.heap.size) (hcell : w.cell? ⟨tb, 0, none⟩ = some (.int .i64 tx)) :
    PredB 66 #[.pointer (some ⟨tb, 0, none⟩)] (fun x => .agg (hc x).toArray) (fun x => x.1 == tx) hs w := fun W x _ hb =>
  (clo_release tb tx x.1 x.2 W ((hb.cell (p := ⟨tb, 0, none⟩) hB).trans hcell)).mono fun _ _ h => ⟨h.1, hb.trans (h.2.mono hb.size)⟩
set_option maxRecDepth 100000 in
set_option maxHeartbeats 1000000 in
theorem pred_may (tb kb : Nat) (tx want : Int) (hs : List (Int × Int)) (w : World) (hB : tb < w.heap.size) (hB2 : kb < w.heap.size) (hcell : w.cell? ⟨tb, 0, none⟩ = some (.int .i64 tx)) (hcell2 : w.cell? ⟨kb, 0, none⟩ = some (.int .i64 want)) :
    PredB 57 #[.pointer (some ⟨tb, 0, none⟩), .pointer (some ⟨kb, 0, none⟩)] (fun x => .agg (hc x).toArray) (fun h => (h.1 != tx) && (want == 2 || h.2 == 2)) hs w := fun W x _ hb => by
  have c0 : W.cell? ⟨tb, 0, none⟩ = some (.int .i64 tx) := (hb.cell (p := ⟨tb, 0, none⟩) hB).trans hcell
  have c1 : W.cell? ⟨kb, 0, none⟩ = some (.int .i64 want) := (hb.cell (p := ⟨kb, 0, none⟩) hB2).trans hcell2
  have hBW : tb < W.heap.size := Nat.lt_of_lt_of_le hB hb.size
  have hBW2 : kb < W.heap.size := Nat.lt_of_lt_of_le hB2 hb.size
  have hne : tb ≠ W.heap.size := by omega
  have hne2 : kb ≠ W.heap.size := by omega
  obtain ⟨x1, x2⟩ := x
  show Calls Try.prog 57 #[.agg #[.int .i64 x1, .int .i64 x2], .pointer (some ⟨tb, 0, none⟩), .pointer (some ⟨kb, 0, none⟩)] W fun e w' => e = .returned (.bool ((x1 != tx) && (want == 2 || x2 == 2))) ∧ Below w.heap.size w w'
  have HB := Lib.hid hb
  clear hb hcell hcell2
  cases hq : (x1 != tx) with
  | false =>
    go_enter Try.func57, Try.ntmps57
    go_wp2
    go_ret
    exact ⟨by simp, HB.out.alloc HB.out.size _⟩
  | true =>
    cases hw : (want == 2) with
    | true =>
      go_enter Try.func57, Try.ntmps57
      go_wp2
      go_ret
      exact ⟨by simp, HB.out.alloc HB.out.size _⟩
    | false =>
      obtain ⟨q, hx⟩ : ∃ q, (x2 == 2) = q := ⟨_, rfl⟩
      go_enter Try.func57, Try.ntmps57
      go_wp2
      go_ret
      exact ⟨by simp [hx], HB.out.alloc HB.out.size _⟩
/-- The place of a transaction among the holders; -1. -/
def placeH (hs : List (Int × Int)) (tx : Int) : Int := idxF (fun x => x.1 == tx) hs
theorem entersPlace : ∀ args w, (callFunc 73 args).run Try.prog w = .ok (.enter 73 args) w := Go.Proofs.enters_of Try.func73 (by kernel_rfl) rfl
theorem entersMay : ∀ args w, (callFunc 57 args).run Try.prog w = .ok (.enter 57 args) w := Go.Proofs.enters_of Try.func57 (by kernel_rfl) rfl
set_option maxRecDepth 100000 in
set_option maxHeartbeats 1000000 in
theorem place_any (hv wv : Value) (hs : List (Int × Int)) (tx r : Int) (w : World) (h : HoldAt w hv hs) (hr : placeH hs tx = r) :
    Calls Try.prog 55 #[.agg #[hv, wv], .int .i64 tx] w fun e w' => e = .returned (.int .i64 r) ∧ Below w.heap.size w w' := by
  have H := Lib.hid h
  clear h
  have HR := Lib.hid hr
  clear hr
  go_enter Try.func55, Try.ntmps55
  go_wp2_with fail
  have H1 : HoldAt ((w.alloc (Obj.cells #[hv, wv] 64)).alloc (Obj.cells #[Value.int IntKind.i64 tx] 3)) hv hs := H.out.below (((Below.refl _ _).alloc (Nat.le_refl _) _).alloc (by simp) _)
  refine (idx_holders hv hs _ _ _ entersPlace r _ H1 (pred_place (w.heap.size + 1) tx hs _ (by simp) (by simp)) HR.out).mono ?_
  rintro e w' ⟨rfl, hb⟩
  have HB := Lib.hid hb
  clear hb H1
  go_wp2_with fail
  go_ret
  exact ⟨rfl, (((Below.refl _ _).alloc (Nat.le_refl _) _).alloc (by simp) _).trans (HB.out.mono (by simp; omega))⟩
/-- What the place tells. -/
theorem placeH_spec (hs : List (Int × Int)) (tx : Int) : (placeH hs tx = -1 ∧ howH hs tx = 0 ∧ ∀ p ∈ hs, p.1 ≠ tx) ∨ ∃ i q, placeH hs tx = (i : Nat) ∧ hs[i]? = some (tx, q) ∧ howH hs tx = q ∧ ∀ want, grantH hs tx want = hs.set i (tx, want) := by
  induction hs with
  | nil => exact .inl ⟨rfl, rfl, fun p hp => by cases hp⟩
  | cons p t ih =>
    by_cases e : p.1 = tx
    · refine .inr ⟨0, p.2, ?_, by simp [← e], by simp [howH, e], fun want => by simp [grantH, e]⟩
      simp [placeH, idxF, placeOf, e]
    · have hpl : placeOf (fun x : Int × Int => x.1 == tx) (p :: t) = placeOf (fun x : Int × Int => x.1 == tx) t + 1 := by simp [placeOf, e]
      rcases ih with ⟨h1, h2, h3⟩ | ⟨i, q, h1, h2, h3, h4⟩
      · refine .inl ⟨?_, by simp [howH, e, h2], fun x hx => ?_⟩
        · unfold placeH idxF at h1 ⊢
          rw [hpl]
          split at h1
          · omega
          · rename_i hn; rw [if_neg (by simp; omega)]
        · rcases List.mem_cons.1 hx with rfl | hx
          · exact e
          · exact h3 x hx
      · refine .inr ⟨i + 1, q, ?_, by simpa using h2, by simp [howH, e, h3], fun want => by simp [grantH, e, h4 want]⟩
        unfold placeH idxF at h1 ⊢
        rw [hpl]
        split at h1
        · rename_i hn; rw [if_pos (by simp; omega)]; omega
        · omega
set_option maxRecDepth 100000 in
set_option maxHeartbeats 1000000 in
theorem how_any (hv wv : Value) (hs : List (Int × Int)) (tx r : Int) (w : World) (h : HoldAt w hv hs) (hr : howH hs tx = r) :
    Calls Try.prog 35 #[.agg #[hv, wv], .int .i64 tx] w fun e w' => e = .returned (.int .i64 r) ∧ Below w.heap.size w w' := by
  have H := Lib.hid h
  rcases placeH_spec hs tx with ⟨h1, h2, _⟩ | ⟨i, q, h1, h2, h3, _⟩
  · rw [h2] at hr
    subst hr
    clear h2
    go_enter Try.func35, Try.ntmps35
    go_wp2_with fail
    refine (place_any hv wv hs tx _ _ (H.out.below ((Below.refl _ _).alloc (Nat.le_refl _) _)) h1).mono ?_
    rintro e w' ⟨rfl, hb⟩
    have HB := Lib.hid hb
    clear hb
    go_wp2_with fail
    go_ret
    exact ⟨rfl, ((Below.refl _ _).alloc (Nat.le_refl _) _).trans (HB.out.mono (by simp))⟩
  · rw [h3] at hr
    subst hr
    clear h3
    have hi : i < hs.length := (List.getElem?_eq_some_iff.1 h2).1
    rcases h.out with ⟨_, e⟩ | ⟨g, cap, rfl, a1, a2, a3, a4⟩
    · rw [e] at hi; simp at hi
    · have hcell := (a4 i _ h2).2
      clear a4 h
      have hbig : hs.length ≤ 9223372036854775807 := by unfold maxLen at a2; omega
      have hi' : (i : Int) < (hs.length : Int) := by omega
      clear a2 a1
      have H2 := Lib.hid h2
      have H3 := Lib.hid h1
      clear h1 h2
      go_enter Try.func35, Try.ntmps35
      go_wp2_with fail
      refine (place_any _ wv hs tx _ _ (H.out.below ((Below.refl _ _).alloc (Nat.le_refl _) _)) H3.out).mono ?_
      rintro e w' ⟨rfl, hb⟩
      have HB := Lib.hid (((Below.refl w.heap.size w).alloc (Nat.le_refl _) (Obj.cells #[Value.slice (some { block := g, off := 0 }) hs.length cap, wv] 64)).trans (hb.mono (by simp)))
      have c0 : w'.cell? ⟨w.heap.size, 0, none⟩ = some (Value.slice (some { block := g, off := 0 }) hs.length cap) := by
        rw [hb.cell (p := ⟨w.heap.size, 0, none⟩) (by simp)]; simp
      have c1 : w'.cell? ⟨g, i * 2 + 1, none⟩ = some (.int .i64 q) := (HB.out.cell (p := ⟨g, i * 2 + 1, none⟩) a3).trans hcell
      clear hb hcell
      go_wp2_with fail
      go_ret
      exact ⟨rfl, HB.out⟩
set_option maxRecDepth 100000 in
set_option maxHeartbeats 1000000 in
theorem may_any (hv wv : Value) (hs : List (Int × Int)) (tx want : Int) (r : Bool) (w : World) (h : HoldAt w hv hs) (hr : mayH hs tx want = r) :
    Calls Try.prog 37 #[.agg #[hv, wv], .int .i64 tx, .int .i64 want] w fun e w' => e = .returned (.bool r) ∧ Below w.heap.size w w' := by
  have H := Lib.hid h
  have HR := Lib.hid hr
  clear h hr
  go_enter Try.func37, Try.ntmps37
  go_wp2_with fail
  have H1 : HoldAt (((w.alloc (Obj.cells #[hv, wv] 64)).alloc (Obj.cells #[Value.int IntKind.i64 tx] 3)).alloc (Obj.cells #[Value.int IntKind.i64 want] 3)) hv hs := H.out.below ((((Below.refl _ _).alloc (Nat.le_refl _) _).alloc (by simp) _).alloc (by simp; omega) _)
  refine (contains_holders hv hs _ _ _ entersMay _ _ H1 (pred_may (w.heap.size + 1) (w.heap.size + 2) tx want hs _ (by simp) (by simp) (by rw [World.cell?_alloc_lt _ _ _ (by simp)]; simp) (by rw [World.cell?_alloc_at _ _ _ _ (by simp)]; rfl)) rfl).mono ?_
  rintro e w' ⟨rfl, hb⟩
  have HB := Lib.hid hb
  clear hb H1
  go_wp2_with fail
  go_ret
  exact ⟨by rw [← HR.out]; rfl, ((((Below.refl _ _).alloc (Nat.le_refl _) _).alloc (by simp) _).alloc (by simp; omega) _).trans (HB.out.mono (by simp; omega))⟩
end Go.Proofs.Ytnfodidfhnofkaa
