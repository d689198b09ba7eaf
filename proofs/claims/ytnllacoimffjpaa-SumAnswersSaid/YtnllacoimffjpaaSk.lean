/- What the landed calls More and Sum of layer 2 answer, for every input. -/
import Derived.Test.YtnllacoimffjpaaSg
namespace Go.Proofs.Ytnllacoimffjpaa
open Go.RowKit Go.Deep

theorem xor_i64 (a b : Nat) (ha : a < 33554432) (hb : b < 33554432) : bits .xor .i64 (a : Int) (b : Int) = ((a ^^^ b : Nat) : Int) := by
  have hx : a ^^^ b < 2 ^ 25 := Nat.xor_lt_two_pow (by omega) (by omega)
  have h1 : (BitVec.ofInt 64 (a : Int)).toNat = a := by rw [BitVec.toNat_ofInt]; omega
  have h2 : (BitVec.ofInt 64 (b : Int)).toNat = b := by rw [BitVec.toNat_ofInt]; omega
  show IntKind.i64.wrap ((BitVec.ofInt 64 (a : Int) ^^^ BitVec.ofInt 64 (b : Int)).toNat : Int) = _
  rw [BitVec.toNat_xor, h1, h2]
  simp [IntKind.wrap, IntKind.signed, IntKind.bits]
  omega

theorem bits_and_low (n : Int) : bits .and .i64 n 16777215 = ((low24 n : Nat) : Int) := by
  have e : (BitVec.ofInt 64 n).toNat = (n % 18446744073709551616).toNat := by rw [BitVec.toNat_ofInt]; rfl
  have e2 : (BitVec.ofInt 64 16777215).toNat = 2 ^ 24 - 1 := by decide
  show IntKind.i64.wrap ((BitVec.ofInt 64 n &&& BitVec.ofInt 64 16777215).toNat : Int) = _
  rw [BitVec.toNat_and, e, e2, Nat.and_two_pow_sub_one_eq_mod]
  simp [IntKind.wrap, IntKind.signed, IntKind.bits, low24]
  omega

set_option maxHeartbeats 1000000 in
theorem moreByte_any (s x q : Nat) (hs : s < 16777216) (hx : x < 256) (hq : Hid (itd 8 (s ^^^ x * 65536) = q)) (w : World) :
    Calls Try.prog 23 #[.int .i64 s, .int .u8 x] w fun e w' => e = .returned (.int .i64 (q : Int)) ∧ w = w' := by
  have hp : s ^^^ x * 65536 < 16777216 := xor24 _ _ hs (by omega)
  have hx1 : bits .xor .i64 (s : Int) ((x : Int) * 65536) = ((s ^^^ x * 65536 : Nat) : Int) := by
    rw [← xor_i64 s (x * 65536) (by omega) (by omega)]; rfl
  generalize s ^^^ x * 65536 = p at *
  go_enter Try.func23, Try.ntmps23
  go_wp2
  clear hx1 hs hx
  go_loop [0, 10] (fun s k => ∃ m r : Nat, m ≤ 8 ∧ k = .int .i64 m ∧ s = .int .i64 r ∧ r < 16777216 ∧ Hid (itd m p = r)) (fun _ k => 8 - (intOf k).toNat)
  case atStart => exact ⟨0, p, by omega, rfl, rfl, hp, Lib.hid (itd_0 p)⟩
  case round =>
    obtain ⟨m, r, hm, rfl, rfl, hrl, R⟩ := hrel
    by_cases hlt8 : m < 8
    · have hn8 := Lib.hid (itd_next m p r R.out)
      by_cases hbig : 16777216 ≤ 2 * r
      · have hbI : (16777215 : Int) < (r : Int) * 2 := by omega
        have hd : dbl r = (2 * r) ^^^ 25578747 := by unfold dbl; rw [if_pos hbig]
        have hdl := dbl_lt r hrl
        rw [hd] at hdl hn8
        have hxr : bits .xor .i64 ((r : Int) * 2) 25578747 = (((2 * r) ^^^ 25578747 : Nat) : Int) := by
          rw [← xor_i64 (2 * r) 25578747 (by omega) (by omega), show ((2 * r : Nat) : Int) = (r : Int) * 2 by omega]; rfl
        clear hd hbig
        generalize (2 * r) ^^^ 25578747 = r2 at *
        go_wp2
        have hdl := Lib.hid hdl
        clear hrl hbI hxr
        go_round
        case rel => first | exact ⟨m + 1, r2, by omega, by go_num, rfl, hdl.out, hn8⟩ | exact ⟨m + 1, by omega, by omega, r2, rfl, hdl.out, hn8⟩
        case measure => simp [intOf]; omega
      · have hd : dbl r = 2 * r := by unfold dbl; rw [if_neg hbig]
        rw [hd] at hn8
        clear hd
        have hbI : ¬ ((16777215 : Int) < (r : Int) * 2) := by omega
        have hbig := Lib.hid hbig
        go_wp2
        clear hrl hbI
        go_round
        case rel => first | exact ⟨m + 1, 2 * r, by omega, by go_num, by go_num, by have := hbig.out; omega, hn8⟩ | exact ⟨m + 1, by omega, by omega, 2 * r, by omega, by have := hbig.out; omega, hn8⟩
        case measure => simp [intOf]; omega
    · obtain rfl : m = 8 := by omega
      obtain rfl : r = q := by rw [← R.out, ← hq.out]
      go_wp2
      go_ret
      exact ⟨rfl, rfl⟩

set_option maxHeartbeats 2000000 in
theorem more_any (n : Int) (A : Option Addr) (zs : List Int) (c l q0 : Nat) (hll : Hid (zs.length = l)) (hz : isBytes zs) (hl : l ≤ 2100) (hq : Hid (crc (low24 n) (bytesOf zs) = q0)) (w : World) (g : Ints .u8 w.heap.size w A zs) :
    Calls Try.prog 14 #[.int .i64 n, .slice A l c] w fun e w' => e = .returned (.int .i64 (q0 : Int)) ∧ w = w' := by
  have hlo := low24_lt n
  have hx1 := bits_and_low n
  generalize low24 n = s0 at *
  go_enter Try.func14, Try.ntmps14
  go_wp2
  clear hx1
  go_loop [0, 6, 11] (fun s _ i => ∃ j q : Nat, j ≤ l ∧ i = .int .i64 j ∧ s = .int .i64 q ∧ q < 16777216 ∧ Hid (crc s0 (bytesOf (zs.take j)) = q)) (fun _ _ i => l - (intOf i).toNat)
  case atStart => exact ⟨0, s0, by omega, rfl, rfl, hlo, Lib.hid rfl⟩
  case round =>
    obtain ⟨j, q, hj, rfl, rfl, hql, H⟩ := hrel
    by_cases hlt : j < l
    · obtain ⟨b, off, rfl, hb, hc⟩ := g (by have := hll.out; omega)
      have hcj := hc j (by have := hll.out; omega)
      have hzz := hz.at j
      have hnx := Lib.hid (crc_next s0 j q zs (by have := hll.out; omega) H.out)
      clear hc
      generalize zs[j]?.getD 0 = z at *
      obtain ⟨y, rfl⟩ : ∃ y : Nat, z = y := ⟨z.toNat, by omega⟩
      rw [Int.toNat_natCast] at hnx
      have hp : q ^^^ y * 65536 < 16777216 := xor24 _ _ hql (by omega)
      have hq2 : itd 8 (q ^^^ y * 65536) < 16777216 := itd_lt _ _ hp
      have cx := moreByte_any q y (itd 8 (q ^^^ y * 65536)) hql (by omega) (Lib.hid rfl)
      generalize itd 8 (q ^^^ y * 65536) = q2 at *
      obtain ⟨hz1, hz2⟩ := hzz
      clear hp hlo
      go_wp2_with (go_at_call 23; refine (cx _).mono ?_; rintro e w' ⟨rfl, rfl⟩)
      have hql2 := Lib.hid hq2
      clear cx hql hq2
      go_round
      case rel => first | exact ⟨j + 1, q2, by omega, by go_num, rfl, hql2.out, hnx⟩ | exact ⟨j + 1, by omega, by omega, q2, rfl, hql2.out, hnx⟩
      case measure => simp [intOf]; omega
    · obtain rfl : j = l := by omega
      have hq' : q = q0 := by rw [← H.out, ← hq.out, ← hll.out, List.take_length]
      subst hq'
      go_wp2
      go_ret
      exact ⟨rfl, rfl⟩

set_option maxHeartbeats 1000000 in
theorem sum_any (A : Option Addr) (zs : List Int) (c l q0 : Nat) (hll : zs.length = l) (hz : isBytes zs) (hl : l ≤ 2100) (hq : sumB zs = q0) (w : World) (g : Ints .u8 w.heap.size w A zs) :
    Calls Try.prog 12 #[.slice A l c] w fun e w' => e = .returned (.int .i64 (q0 : Int)) ∧ w = w' := by
  have cx := more_any 11994318 A zs c l q0 (Lib.hid hll) hz hl (Lib.hid (by rw [← hq]; rfl)) w g
  clear hll hq
  go_enter Try.func12, Try.ntmps12
  go_wp2_with (go_at_call 14; refine cx.mono ?_; rintro e w' ⟨rfl, rfl⟩)
  go_ret
  exact ⟨rfl, rfl⟩

set_option maxHeartbeats 1000000 in
theorem three_any (n : Int) (ts : List Int) (hts : threeL (low24 n) = ts) (w : World) : Calls Try.prog 17 #[.int .i64 n] w (GivesB ts w) := by
  go_enter Try.func17, Try.ntmps17
  go_wp2
  go_ret
  subst hts
  have e1 : n / 65536 % 256 = ((low24 n / 65536 % 256 : Nat) : Int) := by unfold low24; omega
  have e2 : n / 256 % 256 = ((low24 n / 256 % 256 : Nat) : Int) := by unfold low24; omega
  have e3 : n % 256 = ((low24 n % 256 : Nat) : Int) := by unfold low24; omega
  rw [e1, e2, e3]
  exact ⟨_, rfl, World.ownsRow_lit w #[_, _, _] 3 (Nat.le_refl _) (by decide) rfl, (Below.refl _ _).alloc (Nat.le_refl _) _⟩
end Go.Proofs.Ytnllacoimffjpaa
