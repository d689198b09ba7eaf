/- The document's own Bytes of layer 1 (concordatref01), eight of them; over Gc (for the stages above layer 4). -/
import Derived.Test.YtcodphddkkjocaaGreatDoorVr
import Derived.Test.YtcodphddkkjocaaGreatDoorGc
namespace Go.Proofs.YtcodphddkkjocaaGreatDoor
open Go.RowKit Go.Deep
set_option linter.unusedVariables false

theorem bytesL_succ (u j : Nat) : bytesL u (j + 1) = bytesL u j ++ [((byteAt u j : Nat) : Int)] := by simp [bytesL, List.range_succ]
theorem rest_byte (u j : Nat) : u / 2 ^ (8 * j) / 256 = u / 2 ^ (8 * (j + 1)) := by
  rw [Nat.div_div_eq_div_mul, show (256 : Nat) = 2 ^ 8 from rfl, ← Nat.pow_add, show 8 * j + 8 = 8 * (j + 1) by omega]
theorem byte_wrap (r : Nat) : IntKind.u8.wrap ((r : Int) % 256) = ((r % 256 : Nat) : Int) := by
  simp [IntKind.wrap, IntKind.signed, IntKind.bits]

set_option maxRecDepth 100000 in
set_option maxHeartbeats 1000000 in
theorem refBytes8 (u : Nat) (hu : u < 18446744073709551616) (w : World) :
    Calls Tryz.prog 40 #[.int .u64 u, .int .i64 8] w (GivesB (bytesL u 8) w) := by
  obtain ⟨n, hn⟩ : ∃ n : Nat, n = 8 := ⟨_, rfl⟩
  have e8 : (8 : Int) = ((n : Nat) : Int) := by rw [hn]; rfl
  rw [e8]
  have hz8 : u / 2 ^ (8 * n) = 0 := by
    rw [hn]
    exact Nat.div_eq_of_lt hu
  have hn2 : n ≤ 8 := by omega
  have hL8 := Lib.hid (show bytesL u 8 = bytesL u n by rw [hn])
  clear e8 hn
  obtain ⟨i0, hi, hz0, hz1, hz2⟩ := info_parts info_u8
  have hlit : (w.alloc (.cells #[] 5)).ownsRow w.heap.size 5 1 (.slice (some ⟨w.heap.size, 0, none⟩) 0 0) 0 [] := World.ownsRow_lit w #[] 0 (Nat.le_refl _) (by simp) (by simp)
  go_enter Tryz.func40, Tryz.ntmps40
  go_wp2
  go_loopw [0, 5, 6] (fun r v i wr => ∃ j : Nat, j ≤ n ∧ i = .int .i64 j ∧ r = .int .u64 ((u / 2 ^ (8 * j) : Nat) : Int) ∧ wr.ownsRow w.heap.size 5 1 v j ((bytesL u j).map (Value.int .u8)) ∧ Below w.heap.size w wr) (fun _ _ i _ => n - (intOf i).toNat)
  case atStart => exact ⟨0, Nat.zero_le _, rfl, by simp, hlit, (Below.refl _ _).alloc (Nat.le_refl _) _⟩
  case round =>
    obtain ⟨j, hj, rfl, rfl, hown, hbl⟩ := hrel
    have hrl : u / 2 ^ (8 * j) < 18446744073709551616 := Nat.lt_of_le_of_lt (Nat.div_le_self _ _) hu
    by_cases hlt : j < n
    · have hs := Lib.hid (rest_byte u j)
      have hb := Lib.hid (show byteAt u j = u / 2 ^ (8 * j) % 256 from rfl)
      have hL := Lib.hid (bytesL_succ u j)
      clear hz8
      generalize u / 2 ^ (8 * j) = r at *
      have hbw := byte_wrap r
      have hq : (r : Int) / 256 = ((r / 256 : Nat) : Int) := by simp
      generalize r / 256 = q at *
      generalize r % 256 = y at *
      go_wp2_with (at_builtin; refine wpList_append_own _ rfl _ _ 25 rfl w.heap.size 5 i0 (.int .u8 0) 1 1 Tryz.underlying25 hi hz0 hz1 hz2 rfl (by decide) _ j _ rfl (hown.alloc _) ⟨wr.heap.size, 0, none⟩ 1 1 [.int .u8 (y : Int)] rfl rfl (cell_one_new _ _ _) (by simp [Value.oneCell']) (by simp only [maxLen]; omega) (by omega) (by have := hbl.size; simp; omega) ?_; intro v' w1 hown' hgrow _)
      have hown2 : w1.ownsRow w.heap.size 5 1 v' (j + 1) ((bytesL u (j + 1)).map (Value.int .u8)) := by
        rw [hL.out, List.map_append, hb.out]; exact hown'
      have hbl2 : Below w.heap.size w w1 := (hbl.alloc hbl.size _).grown hgrow (by have := hbl.size; simp; omega) (fun k e => (hown.lt k e).1)
      go_roundw
      case rel => exact ⟨j + 1, by omega, by go_num, by rw [← hs.out], hown2, hbl2⟩
      case measure => simp [intOf]; omega
    · obtain rfl : j = n := by omega
      have hz2 : (((u / 2 ^ (8 * j) : Nat) : Int) != 0) = false := by rw [hz8]; rfl
      clear hz8
      generalize u / 2 ^ (8 * j) = z at *
      go_wp2
      go_ret
      refine ⟨_, rfl, ?_, hbl⟩
      unfold Owns
      rw [hL8.out, bytesL_length]
      exact hown
end Go.Proofs.YtcodphddkkjocaaGreatDoor
