/- alive: the set and the pool that the document fixes. -/
import Derived.Test.YthmccldkknhejaaDoorQf
namespace Go.Proofs.YthmccldkknhejaaDoor
open Go.RowKit Go.Deep
set_option linter.unusedVariables false

theorem list_any (s : Nat) (hs : s < 18446744073709551616) (w : World) (hG : Gnd w) : Calls Tryd.prog 16 #[.int .u64 s] w (GivesI (cats s) w) := callsIn_wide.1 (list_in 4 (Nat.le_refl _) s hs w hG.tab hG.lt)
theorem read_any (t : List UInt8) (u : Nat) (o : Bool) (ht : t.length ≤ 1000) (hu : readN t = (u, o)) (w : World) (hG : Gnd w) :
    Calls Tryd.prog 13 #[.string (strB t)] w fun e w' => e = .returned (.tuple #[.int .u64 u, .bool o]) ∧ Below w.heap.size w w' := callsIn_wide.1 (read_in 5 (Nat.le_refl _) t u o ht hu w hG)

theorem v1 : ofN [3, 0, 1] = (11, true) := by decide +kernel
theorem v2 : readN [48, 45, 49, 44, 51] = (11, true) := by decide +kernel
theorem v3 : manyN 3 1 = (4, 7, 0) := by decide +kernel
theorem v4 : manyN 7 2 = (24, 31, 0) := by decide +kernel
theorem v5 : cats 11 = [0, 1, 3] := by decide +kernel
theorem v6 : textB 11 = [48, 45, 49, 44, 51] := by decide +kernel
theorem ints_lit (w : World) (a b c : Int) (t : TypeId) : Ints .i64 (w.heap.size + 1) (w.alloc (.cells #[.int .i64 a, .int .i64 b, .int .i64 c] t)) (some ⟨w.heap.size, 0, none⟩) [a, b, c] := fun _ => by
  refine ⟨w.heap.size, 0, rfl, by omega, fun j hj => ?_⟩
  have h := World.alloc_heap_new w (.cells #[.int .i64 a, .int .i64 b, .int .i64 c] t)
  unfold World.cell?
  simp only [h]
  match j, hj with
  | 0, _ => rfl
  | 1, _ => rfl
  | 2, _ => rfl
set_option maxRecDepth 100000 in
set_option maxHeartbeats 2000000 in
theorem alive_any (w : World) (hG : Gnd w) : Calls Tryd.prog 9 #[] w fun e w' => e = .returned (.bool true) ∧ Below w.heap.size w w' := by
  have hGa : Gnd (w.alloc (.cells #[.int .i64 3, .int .i64 0, .int .i64 1] 3)) := hG.below ((Below.refl _ _).alloc (Nat.le_refl _) _)
  have hba : Below w.heap.size w (w.alloc (.cells #[.int .i64 3, .int .i64 0, .int .i64 1] 3)) := (Below.refl _ _).alloc (Nat.le_refl _) _
  have cOf := of_any (some ⟨w.heap.size, 0, none⟩) [3, 0, 1] 3 3 _ 11 true rfl (by decide) v1 _ (ints_lit w 3 0 1 3)
  go_enter Tryd.func9, Tryd.ntmps9
  go_wp2_with fail
  refine cOf.mono ?_
  rintro e w1 ⟨rfl, hd1⟩
  have hb1 := below_more hba (hd1.below _ (Nat.le_refl _)) (Nat.le_refl _)
  have hG1 := hG.below hb1
  clear cOf hba hGa hd1
  have cR : Calls Tryd.prog 13 #[.string ⟨#[48, 45, 49, 44, 51]⟩] w1 fun e w' => e = .returned (.tuple #[.int .u64 (11 : Nat), .bool true]) ∧ Below w1.heap.size w1 w' := read_any [48, 45, 49, 44, 51] 11 true (by decide) v2 w1 hG1
  go_wp2_with fail
  refine cR.mono ?_
  rintro e w2 ⟨rfl, hb⟩
  have hb2 := below_more hb1 hb (Nat.le_refl _)
  have hG2 := hG.below hb2
  clear hb hb1 hG1 cR
  go_wp2_with fail
  refine (newPool_any 3 w2).mono ?_
  rintro e w3 ⟨rfl, hp3, hb⟩
  have hb3 := below_more hb2 hb (Nat.le_refl _)
  have hG3 := hG.below hb3
  have hwb : w.heap.size ≤ w2.heap.size := hb2.size
  have hgb : 0 < w2.heap.size := hG2.lt
  generalize w2.heap.size = b at *
  clear hb hb2 hG2
  go_wp2_with fail
  refine (pool_take b 3 4 7 2 0 (by decide) v3 (by decide +kernel) w3 hp3 hG3 hgb).mono ?_
  rintro e w4 ⟨rfl, hp4, ht4⟩
  have hb4 := hb3.trans (ht4.below hwb hb3.size)
  have hG4 := hG.below hb4
  clear hb3 hG3 ht4
  go_wp2_with fail
  refine (pool_many b 7 24 31 2 0 (by decide) v4 w4 hp4 hG4).mono ?_
  rintro e w5 ⟨rfl, hp5, ht5⟩
  have hb5 := hb4.trans (ht5.below hwb hb4.size)
  have hG5 := hG.below hb5
  clear hb4 hG4 ht5
  have cS := show_any 11 (by decide) w5 hG5
  rw [v6] at cS
  go_wp2_with fail
  refine cS.mono ?_
  rintro e w6 ⟨rfl, hb⟩
  have hb6 := below_more hb5 hb (Nat.le_refl _)
  have hp6 : PoolAt w6 b 31 := (hb.block b (Boxed.lt hp5)).trans hp5
  have hG6 := hG.below hb6
  have hstr : (strB [48, 45, 49, 44, 51]).toList = [48, 45, 49, 44, 51] := by rw [Lib.toList_data]; rfl
  clear hb hb5 hG5 cS
  have cL := list_any 11 (by decide) w6 hG6
  rw [v5] at cL
  go_wp2_with fail
  refine cL.mono ?_
  rintro e w7 ⟨v, rfl, hown, hb⟩
  obtain ⟨A, c, rfl, hI⟩ := ownsI_ints hown
  have hb7 := below_more hb6 hb (Nat.le_refl _)
  have hp7 : PoolAt w7 b 31 := (hb.block b (Boxed.lt hp6)).trans hp6
  clear hb hb6 hG6 cL hown
  have hba : Below w.heap.size w (w7.alloc (.cells #[.int .i64 0, .int .i64 1, .int .i64 3] 3)) := hb7.alloc hb7.size _
  have cSame := sameInts_any A (some ⟨w7.heap.size, 0, none⟩) [0, 1, 3] [0, 1, 3] c 3 (w7.heap.size + 1) (w7.alloc (.cells #[.int .i64 0, .int .i64 1, .int .i64 3] 3)) ((hI.alloc (Nat.le_refl _) _).more (by omega)) (ints_lit w7 0 1 3 3) (by decide) (by decide)
  rw [show (([0, 1, 3] : List Int) == [0, 1, 3]) = true by decide] at cSame
  have hp8 : PoolAt (w7.alloc (.cells #[.int .i64 0, .int .i64 1, .int .i64 3] 3)) b 31 := Boxed.alloc hp7 _
  go_wp2_with fail
  refine cSame.mono ?_
  rintro e w9 ⟨rfl, n, rfl⟩
  have hp9 : PoolAt ((w7.alloc (.cells #[.int .i64 0, .int .i64 1, .int .i64 3] 3)).drewN n) b 31 := hp8
  have hb9 : Below w.heap.size w ((w7.alloc (.cells #[.int .i64 0, .int .i64 1, .int .i64 3] 3)).drewN n) := below_drewN hba n
  generalize (w7.alloc (.cells #[.int .i64 0, .int .i64 1, .int .i64 3] 3)).drewN n = w9 at *
  clear cSame hba hp8 hp7 hb7 hI
  have n1 : Calls Tryd.prog 18 #[.int .u64 11, .int .i64 3] w9 fun e w' => e = .returned (.bool true) ∧ w9 = w' := has_any 11 3 true (by decide) (by decide +kernel) w9
  have n2 : Calls Tryd.prog 18 #[.int .u64 11, .int .i64 2] w9 fun e w' => e = .returned (.bool false) ∧ w9 = w' := has_any 11 2 false (by decide) (by decide +kernel) w9
  have n3 : Calls Tryd.prog 20 #[.int .u64 3, .int .u64 11] w9 fun e w' => e = .returned (.bool true) ∧ w9 = w' := within_any 3 11 true (by decide) (by decide) (by decide +kernel) w9
  have n4 : Calls Tryd.prog 20 #[.int .u64 4, .int .u64 11] w9 fun e w' => e = .returned (.bool false) ∧ w9 = w' := within_any 4 11 false (by decide) (by decide) (by decide +kernel) w9
  have n5 : Calls Tryd.prog 22 #[.int .u64 11, .int .u64 2] w9 fun e w' => e = .returned (.int .u64 9) ∧ w9 = w' := minus_any 11 2 9 (by decide) (by decide) (by decide +kernel) w9
  have n6 := taken_any b 31 w9 hp9
  go_wp2_with fail
  refine n1.mono ?_
  rintro e w' ⟨rfl, rfl⟩
  go_wp2_with fail
  refine n2.mono ?_
  rintro e w' ⟨rfl, rfl⟩
  go_wp2_with fail
  refine n3.mono ?_
  rintro e w' ⟨rfl, rfl⟩
  go_wp2_with fail
  refine n4.mono ?_
  rintro e w' ⟨rfl, rfl⟩
  go_wp2_with fail
  refine n5.mono ?_
  rintro e w' ⟨rfl, rfl⟩
  go_wp2_with fail
  refine n6.mono ?_
  rintro e w' ⟨rfl, rfl⟩
  go_wp2_with fail
  go_ret
  exact ⟨rfl, hb9⟩
end Go.Proofs.YthmccldkknhejaaDoor
