/- Layer 1 for the stages above it: the document's own Zig, Zag and From. -/
import Derived.Test.YtcodphddkkjocaaGreatDoorVh
namespace Go.Proofs.YtcodphddkkjocaaGreatDoor
open Go.RowKit

theorem ret_int {k : IntKind} {a b : Int} (h : a = b) : Ending.returned (.int k a) = .returned (.int k b) := by rw [h]

theorem from_step (r : Nat) (z : Int) (h0 : 0 ≤ z) (h1 : z < 256) (h2 : r * 256 + z.toNat < 18446744073709551616) : IntKind.u64.wrap (IntKind.u64.wrap ((r : Int) * 256) + z) = ((r * 256 + z.toNat : Nat) : Int) := by
  rw [IntKind.wrap_u64, IntKind.wrap_u64]; omega
theorem fromN_drop (zs : List Int) (m : Nat) (h : m < zs.length) : fromN (zs.drop m) = fromN (zs.drop (m + 1)) * 256 + (zs[m]?.getD 0).toNat := by
  rw [List.drop_eq_getElem_cons h, fromN_cons]
  simp [h]; omega
theorem fromN_small (zs : List Int) (hz : isBytes zs) (hl : zs.length ≤ 8) (m : Nat) : fromN (zs.drop m) < 18446744073709551616 := by
  have h := fromN_lt (zs.drop m) (fun y hy => hz y (List.mem_of_mem_drop hy))
  have : 256 ^ (zs.drop m).length ≤ 256 ^ 8 := Nat.pow_le_pow_right (by decide) (by rw [List.length_drop]; omega)
  omega

set_option maxRecDepth 100000 in
set_option maxHeartbeats 1000000 in
theorem refFrom_core (A : Option Addr) (zs : List Int) (c l q : Nat) (hll : zs.length = l) (hz : isBytes zs) (hl : l ≤ 8) (w : World) (h : Ints .u8 w.heap.size w A zs) (H : Hid (fromN zs = q)) :
    Calls Tryz.prog 26 #[.slice A l c] w fun e w' => e = .returned (.tuple #[.int .u64 (q : Int), .bool true]) ∧ w = w' := by
  have HL := Lib.hid hll
  clear hll
  go_enter Tryz.func26, Tryz.ntmps26
  go_wp2
  go_loop [4, 5] (fun r i => ∃ m : Nat, m ≤ l ∧ i = .int .i64 ((m : Int) - 1) ∧ r = .int .u64 ((fromN (zs.drop m) : Nat) : Int)) (fun _ i => (intOf i + 1).toNat)
  case atStart => exact ⟨l, Nat.le_refl _, rfl, by rw [← HL.out, List.drop_length]; rfl⟩
  case round =>
    obtain ⟨m, hm, hi, rfl⟩ := hrel
    cases m with
    | zero =>
      rw [show ((0 : Nat) : Int) - 1 = -1 by omega] at hi
      subst hi
      rw [List.drop_zero, H.out]
      go_wp2
      go_ret2
      exact ⟨rfl, rfl⟩
    | succ m =>
      rw [show ((m + 1 : Nat) : Int) - 1 = (m : Int) by omega] at hi
      subst hi
      obtain ⟨b, off, rfl, hb, hc⟩ := h (by have := HL.out; omega)
      have hck := hc m (by have := HL.out; omega)
      have hzz := isBytes_at zs hz m
      have hn := Lib.hid (fromN_drop zs m (by have := HL.out; omega))
      have hsm := fromN_small zs hz (by have := HL.out; omega) m
      rw [hn.out] at hsm
      clear hc
      generalize zs[m]?.getD 0 = z at *
      generalize fromN (zs.drop (m + 1)) = r at *
      have hw := from_step r z hzz.1 hzz.2 hsm
      have HM := Lib.hid hsm
      clear hsm
      obtain ⟨hz1, hz2⟩ := hzz
      generalize hqq : r * 256 + z.toNat = q' at *
      have hml : m < l := by omega
      clear hqq
      go_wp2
      go_round
      case rel => exact ⟨m, by omega, rfl, by rw [hn.out]⟩
      case measure => simp [intOf]
end Go.Proofs.YtcodphddkkjocaaGreatDoor
