/- The numbers that the document fixes ('alive'). -/
import Derived.Test.YtafdaeenjjokiaaDoorWg
namespace Go.Proofs.YtafdaeenjjokiaaDoor
open Go.RowKit Go.Shelf Go.Deep

theorem Tab.below {w w' : World} {B : Nat} (h : Tab w) (hb : Below B w w') (hB : 0 < B) : Tab w' := fun j hj => (hb.cell (p := ⟨0, j, none⟩) hB).trans (h j hj)
theorem Tab.lt {w : World} (h : Tab w) : 0 < w.heap.size := by
  have := h 0 (by omega)
  rcases Nat.lt_or_ge 0 w.heap.size with hlt | hge
  · exact hlt
  · simp [World.cell?, Array.getElem?_eq_none hge] at this

theorem ints_built {k : IntKind} {t : TypeId} {B g : Nat} (w : World) (x y : Int) (hg : g = w.heap.size) (hB : g < B) : Ints k B (w.alloc (.cells #[.int k x, .int k y] t)) (some ⟨g, 0, none⟩) [x, y] := fun _ =>
  ⟨g, 0, rfl, hB, fun j hj => by
    subst hg
    match j, hj with
    | 0, _ => simp
    | 1, _ => simp
    | j + 2, hj => exact absurd hj (by simp)⟩
theorem Ints.alloc {k : IntKind} {B : Nat} {w : World} {A : Option Addr} {zs : List Int} (h : Ints k B w A zs) (hB : B ≤ w.heap.size) (o : Obj) : Ints k B (w.alloc o) A zs := h.below ((Below.refl _ _).alloc hB o) (Nat.le_refl _)

theorem ints_row {k : IntKind} {t : TypeId} {b n : Nat} {w : World} {f : Nat → Value} (h : w.rowIs b t n f) (zs : List Int) (hl : zs.length = n) (hz : ∀ j, j < n → f j = .int k (zs[j]?.getD 0)) : Ints k w.heap.size w (some ⟨b, 0, none⟩) zs := fun _ =>
  ⟨b, 0, rfl, h.lt, fun j hj => by rw [Nat.zero_add, h.cell (by omega), hz j (by omega)]⟩

theorem alive_pack (W : World) (A A' : Option Addr) (h : Ints .i64 W.heap.size W A [3, 5]) (h' : Ints .i64 W.heap.size W A' [5, 2]) :
    Calls Tryd.prog 27 #[.slice A 2 2, .slice A' 2 2] W fun e w' => e = .returned (.tuple #[.int .u64 21, .bool true]) ∧ Below W.heap.size W w' :=
  pack_any A A' 2 2 [3, 5] [5, 2] (by simp [i64s]) (by simp) W h h'

theorem alive_unpack (W : World) (A : Option Addr) (h : Ints .i64 W.heap.size W A [3, 5]) :
    Calls Tryd.prog 29 #[.slice A 2 2, .int .u64 21] W fun e w' => e = .returned (.tuple #[.slice (some ⟨W.heap.size, 0, none⟩) 2 2, .bool true]) ∧ Ints .i64 w'.heap.size w' (some ⟨W.heap.size, 0, none⟩) [5, 2] ∧ Below W.heap.size W w' := by
  refine (unpack_good A [3, 5] 2 21 (by decide) W h (by decide) (by decide)).mono ?_
  rintro e w' (⟨_, rfl, hr, hb⟩ | ⟨hn, _⟩)
  · refine ⟨rfl, ints_row hr [5, 2] rfl (fun j hj => ?_), hb⟩
    match j, hj with
    | 0, _ => rfl
    | 1, _ => rfl
    | j + 2, hj => exact absurd hj (by simp)
  · exact absurd (by decide) hn

theorem alive_from (W : World) (A : Option Addr) (h : Ints .u8 W.heap.size W A [1, 2]) :
    Calls Tryd.prog 31 #[.slice A 2 2] W fun e w' => e = .returned (.tuple #[.int .u64 513, .bool true]) ∧ Below W.heap.size W w' :=
  from_yes A 2 [1, 2] (by simp [isBytes]) (by decide) W h

theorem alive_bytes (W : World) :
    Calls Tryd.prog 35 #[.int .u64 513, .int .i64 2] W fun e w' => e = .returned (.slice (some ⟨W.heap.size, 0, none⟩) 2 2) ∧ Ints .u8 w'.heap.size w' (some ⟨W.heap.size, 0, none⟩) [1, 2] ∧ Below W.heap.size W w' := by
  refine (bytes_yes 513 (by decide) 2 (by decide) (by decide) W).mono ?_
  rintro e w' ⟨rfl, hr, hb⟩
  refine ⟨rfl, ints_row hr [1, 2] rfl (fun j hj => ?_), hb⟩
  match j, hj with
  | 0, _ => rfl
  | 1, _ => rfl
  | j + 2, hj => exact absurd hj (by simp)

theorem alive_same (W : World) (A A' : Option Addr) (h : Ints .i64 W.heap.size W A [5, 2]) (h' : Ints .i64 W.heap.size W A' [5, 2]) :
    Calls Tryd.prog 33 #[.slice A 2 2, .slice A' 2 2] W fun e w' => e = .returned (.bool true) ∧ Dr W w' :=
  sameInts_any A A' [5, 2] [5, 2] 2 2 W.heap.size W h h' (by decide) (by decide)
theorem alive_sameB (W : World) (A A' : Option Addr) (h : Ints .u8 W.heap.size W A [1, 2]) (h' : Ints .u8 W.heap.size W A' [1, 2]) :
    Calls Tryd.prog 34 #[.slice A 2 2, .slice A' 2 2] W fun e w' => e = .returned (.bool true) ∧ Dr W w' :=
  sameBytes_any A A' [1, 2] [1, 2] 2 2 W.heap.size W h h' (by decide) (by decide)

theorem alive_cut (W : World) : Calls Tryd.prog 14 #[.int .i64 200, .int .i64 8] W fun e w' => e = .returned (.int .i64 (-56)) ∧ W = w' := by
  have h := cut_yes 200 8 (by omega) (by omega) W
  rwa [show cutI 200 (8 : Int).toNat = -56 by decide] at h
theorem alive_fits (W : World) : Calls Tryd.prog 12 #[.int .i64 (-128), .int .i64 8] W fun e w' => e = .returned (.bool true) ∧ W = w' := by
  have h := fits_yes (-128) 8 (by omega) (by omega) W
  rwa [show (cutI (-128) (8 : Int).toNat == -128) = true by decide] at h
theorem alive_fits2 (W : World) : Calls Tryd.prog 12 #[.int .i64 128, .int .i64 8] W fun e w' => e = .returned (.bool false) ∧ W = w' := by
  have h := fits_yes 128 8 (by omega) (by omega) W
  rwa [show (cutI 128 (8 : Int).toNat == 128) = false by decide] at h
theorem alive_turn (W : World) : Calls Tryd.prog 20 #[.int .u64 1, .int .i64 (-1)] W fun e w' => e = .returned (.int .u64 9223372036854775808) ∧ W = w' := by
  have h := turn_any 1 (by decide) (-1) W
  rwa [show ((turnI 1 (-1) : Nat) : Int) = 9223372036854775808 by decide +kernel] at h
theorem alive_zig (W : World) : Calls Tryd.prog 16 #[.int .i64 (-2)] W fun e w' => e = .returned (.int .u64 3) ∧ W = w' := by
  have h := zig_any (-2) (by omega) (by omega) W
  rwa [show zigI (-2) = 3 by decide] at h
theorem alive_zag (W : World) : Calls Tryd.prog 18 #[.int .u64 4] W fun e w' => e = .returned (.int .i64 2) ∧ W = w' := by
  have h := zag_any 4 (by decide) W
  rwa [show zagI 4 = 2 by decide] at h
theorem pc7 : pc 7 = 3 := by
  rw [pc_step, pc_step (7 / 2), pc_step (7 / 2 / 2)]; simp [pc_zero]
theorem alive_count (W : World) : Calls Tryd.prog 22 #[.int .u64 7] W fun e w' => e = .returned (.int .i64 3) ∧ W = w' := by
  have h := count_any 7 (by decide) W
  rwa [pc7] at h
theorem alive_low (W : World) (hT : Tab W) : Calls Tryd.prog 24 #[.int .u64 8] W fun e w' => e = .returned (.int .i64 3) ∧ W = w' := by
  have h := low_any 8 (by decide) W hT
  rwa [show ((Lib.ctz 64 8 : Nat) : Int) = 3 by decide] at h

set_option maxRecDepth 100000 in
set_option maxHeartbeats 2000000 in
theorem alive_any (w : World) (hT : Tab w) :
    Calls Tryd.prog 11 #[] w fun e w' => e = .returned (.bool true) ∧ Below w.heap.size w w' := by
  go_enter Tryd.func11, Tryd.ntmps11
  go_wp2_with fail
  refine (alive_pack _ _ _ ?_ ?_).mono ?_
  · exact ((ints_built w 3 5 rfl (by omega : w.heap.size < w.heap.size + 1)).alloc (by simp) _).more (by simp)
  · exact ints_built _ 5 2 (by simp) (by simp)
  rintro e w1 ⟨rfl, hb1⟩
  have B1 : Below w.heap.size w w1 := (((Below.refl _ w).alloc (Nat.le_refl _) _).alloc (by simp) _).trans (hb1.mono (by simp; omega))
  clear hb1
  go_wp2_with fail
  refine (alive_unpack _ _ (ints_built _ 3 5 (by simp) (by simp))).mono ?_
  rintro e w2 ⟨rfl, hi2, hb2⟩
  have B2 : Below w.heap.size w w2 := (B1.alloc B1.size _).trans (hb2.mono (by have := B1.size; simp; omega))
  clear hb2
  generalize (some ⟨(w1.alloc (Obj.cells #[Value.int IntKind.i64 3, Value.int IntKind.i64 5] 3)).heap.size, 0, none⟩ : Option Addr) = a2 at *
  clear B1
  go_wp2_with fail
  refine (alive_from _ _ (ints_built _ 1 2 (by simp) (by simp))).mono ?_
  rintro e w3 ⟨rfl, hb3⟩
  have B3 : Below w.heap.size w w3 := (B2.alloc B2.size _).trans (hb3.mono (by have := B2.size; simp; omega))
  have hi3 : Ints .i64 w3.heap.size w3 a2 [5, 2] := ((hi2.alloc (Nat.le_refl _) _).below hb3 (by simp)).more (by have := hb3.size; simp at this; omega)
  clear hb3 B2 hi2
  go_wp2_with fail
  refine (alive_same _ _ _ ((hi3.alloc (Nat.le_refl _) _).more (by simp)) (ints_built _ 5 2 (by simp) (by simp))).mono ?_
  rintro e w4 ⟨rfl, hd4⟩
  have B4 : Below w.heap.size w w4 := (B3.alloc B3.size _).trans ((hd4.below _ (Nat.le_refl _)).mono (by have := B3.size; simp; omega))
  have T4 : Tab w4 := hT.below B4 hT.lt
  clear hd4 B3 hi3
  go_wp2_with fail
  refine (alive_cut _).mono ?_
  rintro e w' ⟨rfl, rfl⟩
  go_wp2_with fail
  refine (alive_fits _).mono ?_
  rintro e w' ⟨rfl, rfl⟩
  go_wp2_with fail
  refine (alive_fits2 _).mono ?_
  rintro e w' ⟨rfl, rfl⟩
  go_wp2_with fail
  refine (alive_turn _).mono ?_
  rintro e w' ⟨rfl, rfl⟩
  go_wp2_with fail
  refine (alive_zig _).mono ?_
  rintro e w' ⟨rfl, rfl⟩
  go_wp2_with fail
  refine (alive_zag _).mono ?_
  rintro e w' ⟨rfl, rfl⟩
  go_wp2_with fail
  refine (alive_count _).mono ?_
  rintro e w' ⟨rfl, rfl⟩
  go_wp2_with fail
  refine (alive_low _ T4).mono ?_
  rintro e w' ⟨rfl, rfl⟩
  go_wp2_with fail
  refine (alive_bytes _).mono ?_
  rintro e w5 ⟨rfl, hi5, hb5⟩
  have B5 : Below w.heap.size w w5 := B4.trans (hb5.mono B4.size)
  clear hb5 B4 T4
  go_wp2_with fail
  refine (alive_sameB _ _ _ ((hi5.alloc (Nat.le_refl _) _).more (by simp)) (ints_built _ 1 2 (by simp) (by simp))).mono ?_
  rintro e w6 ⟨rfl, hd6⟩
  have B6 : Below w.heap.size w w6 := (B5.alloc B5.size _).trans ((hd6.below _ (Nat.le_refl _)).mono (by have := B5.size; simp; omega))
  clear hd6 B5 hi5
  go_wp2
  go_ret
  exact ⟨rfl, B6⟩
end Go.Proofs.YtafdaeenjjokiaaDoor
