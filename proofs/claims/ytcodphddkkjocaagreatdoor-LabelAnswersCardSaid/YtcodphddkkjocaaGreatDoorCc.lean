/- slices.Grow of nil, slices.Concat of two (lists of bytes), over Gc (for any stage without Y): the part of Yl that needs nothing of layer 2: never import both. -/
import Derived.Test.YtcodphddkkjocaaGreatDoorGc
import Derived.Lib.AppendZeros
import Derived.Lib.SliceRun
namespace Go.Proofs.YtcodphddkkjocaaGreatDoor
open Go.RowKit Go.Deep
set_option linter.unusedVariables false

set_option maxRecDepth 100000 in
set_option maxHeartbeats 1000000 in
theorem grow_nil (n : Nat) (h0 : 0 < n) (hn : n ≤ 10000) (w : World) :
    Calls Tryz.prog 50 #[.slice none 0 0, .int .i64 n] w (GivesB [] w) := by
  obtain ⟨i0, hi, hz0, hz1, hz2⟩ := info_parts info_u8
  have hr := fun ty => Lib.run_append_nil_zeros (P := Tryz.prog) w 25 3 ty 5 i0 (.int .u8 0) .i64 .i64 Tryz.underlying25 Tryz.underlying3 hi hz0 n h0 (by omega) (by omega) (by rw [hz2]; omega)
  have hG := grownCap_ge w n 0 5
  have hG2 := grownCap_le_maxLen w n 0 5 (by unfold maxLen; omega)
  generalize grownCap w n 0 5 = G at *
  have hG63 : G ≤ 9223372036854775807 := by unfold maxLen at hG2; omega
  go_enter Tryz.func50, Tryz.ntmps50
  go_wp2_with (at_builtin; refine Lib.wpList_append_run _ rfl _ _ _ _ rfl _ _ rfl rfl _ _ (hr _) ?_)
  all_goals
    go_ret
    refine ⟨_, rfl, ⟨rfl, .inr ⟨w.heap.size, G, _, rfl, Nat.le_refl _, heap_alloc_new w _, Nat.zero_le _, hG2, ?_, rfl⟩⟩, ((Below.refl _ _).alloc (Nat.le_refl _) _).drew⟩
    simp [size_zeroCells]
    omega
/-- A row of two slices. -/
def TwoAt (B : Nat) (v1 v2 : Value) (w : World) : Prop := w.cell? ⟨B, 0, none⟩ = some v1 ∧ w.cell? ⟨B, 1, none⟩ = some v2 ∧ B < w.heap.size
theorem TwoAt.below {B : Nat} {v1 v2 : Value} {w w' : World} (h : TwoAt B v1 v2 w) (hb : Below w.heap.size w w') : TwoAt B v1 v2 w' :=
  ⟨(hb.cell h.2.2).trans h.1, (hb.cell h.2.2).trans h.2.1, Nat.lt_of_lt_of_le h.2.2 hb.size⟩
set_option maxRecDepth 100000 in
set_option maxHeartbeats 1000000 in
theorem concat_two (B : Nat) (A A' : Option Addr) (xs ys : List Int) (c c' l l' : Nat) (hll : xs.length = l) (hll' : ys.length = l') (h0 : 0 < l + l') (hl : l ≤ 2200) (hl' : l' ≤ 2200) (w : World) (hB : TwoAt B (.slice A l c) (.slice A' l' c') w) (g : Good A c xs w) (g' : Good A' c' ys w) :
    Calls Tryz.prog 38 #[.slice (some ⟨B, 0, none⟩) 2 2] w (GivesB (xs ++ ys) w) := by
  have hb1 := hB.1
  have hb2 := hB.2.1
  go_enter Tryz.func38, Tryz.ntmps38
  go_wp2
  go_loop [3, 5, 11] (fun s _ i => (i = .int .i64 0 ∧ s = .int .i64 0) ∨ (i = .int .i64 1 ∧ s = .int .i64 l) ∨ (i = .int .i64 2 ∧ s = .int .i64 ((l : Int) + l'))) (fun _ _ i => 2 - (intOf i).toNat)
  case atStart => exact .inl ⟨rfl, rfl⟩
  case round =>
    rcases hrel with ⟨rfl, rfl⟩ | ⟨rfl, rfl⟩ | ⟨rfl, rfl⟩
    · go_wp2
      go_round
      case rel => exact .inr (.inl ⟨rfl, rfl⟩)
      case measure => decide
    · go_wp2
      go_round
      case rel => exact .inr (.inr ⟨rfl, rfl⟩)
      case measure => decide
    · have cg := grow_nil (l + l') h0 (by omega) w
      rw [Int.natCast_add] at cg
      go_wp2_with (go_at_call 50; refine cg.mono ?_; rintro e w1 ⟨v, rfl, hown, hbel⟩)
      clear cg hb1 hb2
      go_loopw [6, 8, 27] (fun v _ i wr => ∃ zs, ((i = .int .i64 0 ∧ zs = []) ∨ (i = .int .i64 1 ∧ zs = xs) ∨ (i = .int .i64 2 ∧ zs = xs ++ ys)) ∧ Owns w.heap.size wr v zs ∧ Below w.heap.size w wr) (fun _ _ i _ => 2 - (intOf i).toNat)
      case atStart => exact ⟨[], .inl ⟨rfl, rfl⟩, hown, hbel⟩
      case round =>
        obtain ⟨zs, hk, hown, hbel⟩ := hrel
        have hb1 := (hB.below hbel).1
        have hb2 := (hB.below hbel).2.1
        have g1 := g.below hbel
        have g2 := g'.below hbel
        rcases hk with ⟨rfl, rfl⟩ | ⟨rfl, rfl⟩ | ⟨rfl, rfl⟩
        · go_wp2_with (at_builtin; refine wpList_appendB rfl _ _ rfl w.heap.size _ [] rfl hown _ xs l c rfl hll g1 (by simp; omega) hbel.size w hbel ?_; intro v' w2 hown2 hbel2)
          go_roundw
          case rel => exact ⟨_, .inr (.inl ⟨rfl, rfl⟩), hown2, hbel2⟩
          case measure => decide
        · go_wp2_with (at_builtin; refine wpList_appendB rfl _ _ rfl w.heap.size _ zs rfl hown _ ys l' c' rfl hll' g2 (by omega) hbel.size w hbel ?_; intro v' w2 hown2 hbel2)
          go_roundw
          case rel => exact ⟨_, .inr (.inr ⟨rfl, rfl⟩), hown2, hbel2⟩
          case measure => decide
        · go_wp2
          go_ret
          exact ⟨_, rfl, hown, hbel⟩
end Go.Proofs.YtcodphddkkjocaaGreatDoor
