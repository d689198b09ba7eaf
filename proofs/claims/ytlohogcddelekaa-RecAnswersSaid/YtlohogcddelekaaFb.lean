/- The document's own bytes of a number: as few as can be, one at least. -/
import Derived.Test.YtlohogcddelekaaFa
import Derived.Test.YtlohogcddelekaaEp
import Derived.Test.YtlohogcddelekaaVr
namespace Go.Proofs.Ytlohogcddelekaa
open Go.RowKit Go.Deep
set_option linter.unusedVariables false

theorem nb_iff (u : Nat) (h : u < 18446744073709551616) (j : Nat) (h1 : 1 ≤ j) (h8 : j ≤ 8) : u / 2 ^ (8 * j) = 0 ↔ nb u ≤ j := by
  have hj : j = 1 ∨ j = 2 ∨ j = 3 ∨ j = 4 ∨ j = 5 ∨ j = 6 ∨ j = 7 ∨ j = 8 := by omega
  rcases hj with rfl | rfl | rfl | rfl | rfl | rfl | rfl | rfl
  all_goals
    simp only [Nat.reduceMul, Nat.reducePow]
    unfold nb
    repeat (first | split | omega)
theorem bytesL_succ (u j : Nat) : bytesL u (j + 1) = bytesL u j ++ [((byteAt u j : Nat) : Int)] := by simp [bytesL, List.range_succ]
theorem rest_byte (u j : Nat) : u / 2 ^ (8 * j) / 256 = u / 2 ^ (8 * (j + 1)) := by
  rw [Nat.div_div_eq_div_mul, show (256 : Nat) = 2 ^ 8 from rfl, ← Nat.pow_add, show 8 * j + 8 = 8 * (j + 1) by omega]
theorem byte_wrap (r : Nat) : IntKind.u8.wrap ((r : Int) % 256) = ((r % 256 : Nat) : Int) := by
  simp [IntKind.wrap, IntKind.signed, IntKind.bits]
theorem good_one (w : World) (z : Int) : Good (some ⟨w.heap.size, 0, none⟩) 1 [z] (w.alloc (.cells #[.int .u8 z] 5)) := by
  refine ⟨fun _ => ⟨w.heap.size, 0, rfl, by simp, fun j hj => ?_⟩, Nat.le_refl _, fun e => by cases e⟩
  rw [Nat.zero_add, cell_of_row _ w.heap.size j _ 5 (0, 0) (heap_alloc_new w _)]
  simp at hj
  subst hj
  rfl
theorem owns_one (w : World) (z : Int) : Owns w.heap.size (w.alloc (.cells #[.int .u8 z] 5)) (.slice (some ⟨w.heap.size, 0, none⟩) 1 1) [z] :=
  ⟨rfl, .inr ⟨w.heap.size, 1, #[.int .u8 z], rfl, Nat.le_refl _, heap_alloc_new w _, Nat.le_refl _, by simp [maxLen], rfl, rfl⟩⟩
set_option maxRecDepth 100000 in
set_option maxHeartbeats 1000000 in
theorem small_core (n : Int) (u k : Nat) (hn : isI64 n) (hu : zigN n = u) (hk : nb u = k) (w : World) : Calls Try.prog 29 #[.int .i64 n] w (GivesB (bytesL u k) w) := by
  have hlt : u < 18446744073709551616 := by rw [← hu]; exact zigN_lt n hn
  have c1 := fun W => refZig_any n ⟨hn.1, hn.2⟩ W
  rw [← zigN_cast, hu] at c1
  have hk8 := nb_bd u
  rw [hk] at hk8
  have hiff := Lib.hid (fun j h1 h8 => nb_iff u hlt j h1 h8)
  have HK := Lib.hid hk
  have hb0 : bytesL u 1 = [((u % 256 : Nat) : Int)] := by simp [bytesL, byteAt]
  have hbw := byte_wrap u
  have HO : Hid (Owns w.heap.size (w.alloc (.cells #[.int .u8 ((u % 256 : Nat) : Int)] 5)) (.slice (some ⟨w.heap.size, 0, none⟩) 1 1) (bytesL u 1)) := Lib.hid (by rw [hb0]; exact owns_one w _)
  have hq : (u : Int) / 256 = ((u / 256 : Nat) : Int) := by simp
  generalize u % 256 = y at *
  generalize hq0 : u / 256 = q0 at *
  have HQ0 := Lib.hid hq0
  clear hq0
  clear hk hu hb0
  go_enter Try.func29, Try.ntmps29
  go_wp2_with fail
  (with_reducible refine (c1 _).mono ?_)
  rintro e w' ⟨rfl, rfl⟩
  clear c1
  go_wp2
  go_loopw [3, 4] (fun x v wr => ∃ j : Nat, 1 ≤ j ∧ j ≤ k ∧ x = .int .u64 ((u / 2 ^ (8 * j) : Nat) : Int) ∧ Owns w.heap.size wr v (bytesL u j) ∧ Below w.heap.size w wr) (fun x _ _ => (intOf x).toNat)
  case atStart => exact ⟨1, Nat.le_refl _, hk8.1, by rw [show u / 2 ^ (8 * 1) = u / 256 from rfl, HQ0.out], HO.out, (Below.refl _ _).alloc (Nat.le_refl _) _⟩
  case round =>
    obtain ⟨j, h1, hjk, rfl, hown, hbel⟩ := hrel
    have hs := Lib.hid (rest_byte u j)
    have hb := Lib.hid (show byteAt u j = u / 2 ^ (8 * j) % 256 from rfl)
    have hL := Lib.hid (bytesL_succ u j)
    have hlen := bytesL_length u j
    have hrl : u / 2 ^ (8 * j) < 18446744073709551616 := Nat.lt_of_le_of_lt (Nat.div_le_self _ _) hlt
    have hz := hiff.out j h1 (by omega)
    rw [HK.out] at hz
    generalize u / 2 ^ (8 * j) = r at *
    by_cases hr : r = 0
    · have hjk2 : j = k := by have := hz.1 hr; omega
      subst hr
      have HJ := Lib.hid hjk2
      clear hz hjk2
      go_wp2
      go_ret
      exact ⟨_, rfl, by rw [← HJ.out]; exact hown, hbel⟩
    · have hj2 : j < k := by
        rcases Nat.lt_or_ge j k with h | h
        · exact h
        · exact absurd (hz.2 h) hr
      have hbw2 := byte_wrap r
      have hq2 : (r : Int) / 256 = ((r / 256 : Nat) : Int) := by simp
      have hd : decide ((0 : Int) < (r : Int)) = true := by simp; omega
      have hlt2 : r / 256 < r := by omega
      have hr0 : 0 < r := by omega
      generalize hyr : r % 256 = yr at *
      generalize hqr : r / 256 = qr at *
      have g1 := good_one wr ((yr : Nat) : Int)
      have o1 := hown.below ((Below.refl _ _).alloc (Nat.le_refl _) (.cells #[.int .u8 ((yr : Nat) : Int)] 5))
      have k1 : Below w.heap.size w (wr.alloc (.cells #[.int .u8 ((yr : Nat) : Int)] 5)) := hbel.alloc hbel.size _
      have HLN := Lib.hid hlen
      have HYR := Lib.hid hyr
      clear hz hlen hyr hqr hq hbw hr
      go_wp2_with (at_builtin; refine wpList_appendB rfl _ _ rfl w.heap.size _ (bytesL u j) rfl o1 (some ⟨wr.heap.size, 0, none⟩) [((yr : Nat) : Int)] 1 1 rfl rfl g1 (by rw [HLN.out]; simp; omega) k1.size w k1 ?_; intro v' w2 o2 k2)
      go_roundw
      case rel => exact ⟨j + 1, by omega, by omega, by rw [← hs.out], by rw [hL.out, hb.out]; exact o2, k2⟩
      case measure => simp [intOf]; omega
theorem small_any (n : Int) (hn : isI64 n) (w : World) : Calls Try.prog 29 #[.int .i64 n] w (GivesB (valL true n) w) := small_core n _ _ hn rfl rfl w
end Go.Proofs.Ytlohogcddelekaa
