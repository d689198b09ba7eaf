/- The document's own answers for layer 2: exclusive or bit by bit, More, Sum, Three, Seal, Open. -/
import Derived.Test.YtnllacoimffjpaaSb
namespace Go.Proofs.Ytnllacoimffjpaa
open Go.RowKit Go.Deep

theorem xor_mod2 (u v : Nat) : (u ^^^ v) % 2 = (u + v) % 2 := by
  have h := Nat.xor_mod_two_pow (a := u) (b := v) (n := 1)
  rw [Nat.pow_one] at h
  rw [h]
  rcases Nat.mod_two_eq_zero_or_one u with a | a <;> rcases Nat.mod_two_eq_zero_or_one v with b | b <;> rw [a, b] <;> simp <;> omega
/-- Where the exclusive or stands behind k bits. -/
structure XorAt (x y k a b p o : Nat) : Prop where
  a : x / 2 ^ k = a
  b : y / 2 ^ k = b
  p : 2 ^ k = p
  o : (x ^^^ y) % 2 ^ k = o
theorem XorAt.start (x y : Nat) : XorAt x y 0 x y 1 0 := ⟨by simp, by simp, by simp, by simp [Nat.mod_one]⟩
theorem XorAt.step {x y k a b p o : Nat} (h : XorAt x y k a b p o) : XorAt x y (k + 1) (a / 2) (b / 2) (p * 2) (o + p * ((a + b) % 2)) := by
  obtain ⟨rfl, rfl, rfl, rfl⟩ := h
  refine ⟨?_, ?_, ?_, ?_⟩
  · rw [Nat.pow_succ, Nat.div_div_eq_div_mul]
  · rw [Nat.pow_succ, Nat.div_div_eq_div_mul]
  · rw [Nat.pow_succ]
  · rw [Nat.mod_pow_succ, Nat.xor_div_two_pow, xor_mod2]
theorem XorAt.lt {x y k a b p o : Nat} (h : XorAt x y k a b p o) (hk : k ≤ 25) (hx : x < 33554432) (hy : y < 33554432) : a < 33554432 ∧ b < 33554432 ∧ p ≤ 33554432 ∧ o < p := by
  obtain ⟨rfl, rfl, rfl, rfl⟩ := h
  have h1 : 2 ^ k ≤ 2 ^ 25 := Nat.pow_le_pow_right (by decide) hk
  have h2 := Nat.div_le_self x (2 ^ k)
  have h3 := Nat.div_le_self y (2 ^ k)
  exact ⟨by omega, by omega, by omega, Nat.mod_lt _ (Nat.two_pow_pos k)⟩
theorem XorAt.same {x y k a b p o : Nat} (h : XorAt x y k a b p o) (e : a % 2 = b % 2) : XorAt x y (k + 1) (a / 2) (b / 2) (p * 2) o := by
  have := h.step
  rwa [show (a + b) % 2 = 0 by omega, Nat.mul_zero, Nat.add_zero] at this
theorem XorAt.other {x y k a b p o : Nat} (h : XorAt x y k a b p o) (e : a % 2 ≠ b % 2) : XorAt x y (k + 1) (a / 2) (b / 2) (p * 2) (o + p) := by
  have := h.step
  rwa [show (a + b) % 2 = 1 by omega, Nat.mul_one] at this
theorem XorAt.done {x y a b p o : Nat} (h : XorAt x y 25 a b p o) (hx : x < 33554432) (hy : y < 33554432) : x ^^^ y = o := by
  have := h.o
  rwa [Nat.mod_eq_of_lt (Nat.xor_lt_two_pow (n := 25) (by omega) (by omega))] at this

set_option maxHeartbeats 1000000 in
theorem refXor_any (x y r : Nat) (X Y : Int) (hX : X = x) (hY : Y = y) (hx : x < 33554432) (hy : y < 33554432) (hr : Hid (x ^^^ y = r)) (w : World) :
    Calls Try.prog 24 #[.int .i64 X, .int .i64 Y] w fun e w' => e = .returned (.int .i64 (r : Int)) ∧ w = w' := by
  subst hX hY
  have h0 := Lib.hid (XorAt.start x y)
  go_enter Try.func24, Try.ntmps24
  go_wp2
  go_loop [0, 1, 5, 6, 7] (fun sa sb so sp si => ∃ k a b p o : Nat, k ≤ 25 ∧ si = .int .i64 k ∧ sa = .int .i64 a ∧ sb = .int .i64 b ∧ sp = .int .i64 p ∧ so = .int .i64 o ∧ Hid (XorAt x y k a b p o)) (fun _ _ _ _ si => 25 - (intOf si).toNat)
  case atStart => exact ⟨0, x, y, 1, 0, by omega, rfl, rfl, rfl, rfl, rfl, h0⟩
  case round =>
    obtain ⟨k, a, b, p, o, hk, rfl, rfl, rfl, rfl, rfl, H⟩ := hrel
    obtain ⟨l1, l2, l3, l4⟩ := H.out.lt hk hx hy
    have m1 : (a : Int).tmod 2 = ((a % 2 : Nat) : Int) := by rw [Int.tmod_eq_emod_of_nonneg (by omega)]; omega
    have m2 : (b : Int).tmod 2 = ((b % 2 : Nat) : Int) := by rw [Int.tmod_eq_emod_of_nonneg (by omega)]; omega
    have d1 : (a : Int).tdiv 2 = ((a / 2 : Nat) : Int) := by rw [Int.tdiv_eq_ediv_of_nonneg (by omega)]; omega
    have d2 : (b : Int).tdiv 2 = ((b / 2 : Nat) : Int) := by rw [Int.tdiv_eq_ediv_of_nonneg (by omega)]; omega
    by_cases hlt : k < 25
    · by_cases e : a % 2 = b % 2
      · have H2 := Lib.hid (H.out.same e)
        go_wp2
        go_round
        case rel => exact ⟨k + 1, a / 2, b / 2, p * 2, o, by omega, by go_num, by go_num, by go_num, by go_num, rfl, H2⟩
        case measure => simp [intOf]; omega
      · have H2 := Lib.hid (H.out.other e)
        go_wp2
        go_round
        case rel => exact ⟨k + 1, a / 2, b / 2, p * 2, o + p, by omega, by go_num, by go_num, by go_num, by go_num, by go_num, H2⟩
        case measure => simp [intOf]; omega
    · obtain rfl : k = 25 := by omega
      obtain rfl : o = r := by rw [← H.out.done hx hy]; exact hr.out
      go_wp2
      go_ret
      exact ⟨rfl, rfl⟩

/-! ### More -/
theorem itd_next (m p r : Nat) (h : itd m p = r) : itd (m + 1) p = dbl r := by rw [itd_add, h, itd_s, itd_0]
theorem crc_next (s0 j q : Nat) (zs : List Int) (hj : j < zs.length) (h : crc s0 (bytesOf (zs.take j)) = q) : crc s0 (bytesOf (zs.take (j + 1))) = itd 8 (q ^^^ (zs[j]?.getD 0).toNat * 65536) := by
  rw [List.take_succ_eq_append_getElem hj, bytesOf_append, crc_append, h]
  simp only [List.getElem?_eq_getElem hj, Option.getD_some]
  rfl
theorem tmod_neg (n : Int) (h : n < 0) : n.tmod 16777216 = -((-n) % 16777216) := by
  have e := Int.neg_tmod (-n) 16777216
  rw [Int.neg_neg] at e
  rw [e, Int.tmod_eq_emod_of_nonneg (by omega)]
theorem low24_tmod (n : Int) : n.tmod 16777216 = ((low24 n : Nat) : Int) ∨ n.tmod 16777216 = ((low24 n : Nat) : Int) - 16777216 := by
  unfold low24
  by_cases h : n < 0
  · rw [tmod_neg n h]; omega
  · rw [Int.tmod_eq_emod_of_nonneg (by omega)]; omega

set_option maxRecDepth 10000 in
set_option maxHeartbeats 2000000 in
theorem refMore_core (A : Option Addr) (zs : List Int) (c l s0 q0 : Nat) (n : Int) (hn : n.tmod 16777216 = (s0 : Int) ∨ n.tmod 16777216 = (s0 : Int) - 16777216) (hs0 : s0 < 16777216) (hll : Hid (zs.length = l)) (hz : isBytes zs) (hl : l ≤ 2100) (hq : Hid (crc s0 (bytesOf zs) = q0)) (w : World) (g : Ints .u8 w.heap.size w A zs) :
    Calls Try.prog 15 #[.int .i64 n, .slice A l c] w fun e w' => e = .returned (.int .i64 (q0 : Int)) ∧ w = w' := by
  rcases hn with hn | hn
  all_goals
    go_enter Try.func15, Try.ntmps15
    go_wp2
    go_loop [5, 6, 7] (fun s i _ => ∃ j q : Nat, j ≤ l ∧ i = .int .i64 j ∧ s = .int .i64 q ∧ q < 16777216 ∧ Hid (crc s0 (bytesOf (zs.take j)) = q)) (fun _ i _ => l - (intOf i).toNat)
    case atStart => exact ⟨0, s0, by omega, rfl, by go_num, hs0, Lib.hid rfl⟩
    case round =>
      obtain ⟨j, q, hj, rfl, rfl, hql, H⟩ := hrel
      by_cases hlt : j < l
      · obtain ⟨b, off, rfl, hb, hc⟩ := g (by have := hll.out; omega)
        have hcj := hc j (by have := hll.out; omega)
        have hzz := hz.at j
        have hnx := Lib.hid (crc_next s0 j q zs (by have := hll.out; omega) H.out)
        clear hc
        generalize zs[j]?.getD 0 = z at *
        obtain ⟨y, rfl⟩ : ∃ y : Nat, z = y := ⟨z.toNat, by omega⟩
        rw [Int.toNat_natCast] at hnx
        have hp : q ^^^ y * 65536 < 16777216 := xor24 _ _ hql (by omega)
        have cx := refXor_any q (y * 65536) (q ^^^ y * 65536) q ((y : Int) * 65536) rfl (by omega) (by omega) (by omega) (Lib.hid rfl)
        obtain ⟨hz1, hz2⟩ := hzz
        generalize q ^^^ y * 65536 = p at *
        go_wp2_with (go_at_call 24; refine (cx _).mono ?_; rintro e w' ⟨rfl, rfl⟩)
        clear cx
        go_loop [5, 7] (fun s k => ∃ m r : Nat, m ≤ 8 ∧ k = .int .i64 m ∧ s = .int .i64 r ∧ r < 16777216 ∧ Hid (itd m p = r)) (fun _ k => 8 - (intOf k).toNat)
        case atStart => exact ⟨0, p, by omega, rfl, rfl, hp, Lib.hid (itd_0 p)⟩
        case round =>
          obtain ⟨m, r, hm, rfl, rfl, hrl, R⟩ := hrel
          by_cases hlt8 : m < 8
          · have hn8 := Lib.hid (itd_next m p r R.out)
            by_cases hbig : 16777216 ≤ 2 * r
            · have hbI : (16777216 : Int) ≤ (r : Int) * 2 := by omega
              have hd : dbl r = (2 * r) ^^^ 25578747 := by unfold dbl; rw [if_pos hbig]
              have hdl := dbl_lt r hrl
              rw [hd] at hdl hn8
              have cx := refXor_any (2 * r) 25578747 ((2 * r) ^^^ 25578747) ((r : Int) * 2) 25578747 (by omega) rfl (by omega) (by omega) (Lib.hid rfl)
              clear hd hbig
              generalize (2 * r) ^^^ 25578747 = r2 at *
              go_wp2_with (go_at_call 24; refine (cx _).mono ?_; rintro e w' ⟨rfl, rfl⟩)
              have hdl := Lib.hid hdl
              clear hrl hql hp hs0 hbI
              go_round
              case rel => first | exact ⟨m + 1, r2, by omega, by go_num, rfl, hdl.out, hn8⟩ | exact ⟨m + 1, by omega, by omega, r2, rfl, hdl.out, hn8⟩
              case measure => simp [intOf]; omega
            · have hd : dbl r = 2 * r := by unfold dbl; rw [if_neg hbig]
              rw [hd] at hn8
              clear hd
              have hbI : ¬ ((16777216 : Int) ≤ (r : Int) * 2) := by omega
              have hbig := Lib.hid hbig
              go_wp2
              clear hrl hql hp hs0 hbI
              go_round
              case rel => first | exact ⟨m + 1, 2 * r, by omega, by go_num, by go_num, by have := hbig.out; omega, hn8⟩ | exact ⟨m + 1, by omega, by omega, 2 * r, by omega, by have := hbig.out; omega, hn8⟩
              case measure => simp [intOf]; omega
          · obtain rfl : m = 8 := by omega
            have hnx2 := Lib.hid (hnx.out.trans R.out)
            have hrl := Lib.hid hrl
            go_wp2
            go_round
            case rel => first | exact ⟨j + 1, r, by omega, by go_num, rfl, hrl.out, hnx2⟩ | exact ⟨j + 1, by omega, by omega, r, rfl, hrl.out, hnx2⟩
            case measure => simp [intOf]; omega
      · obtain rfl : j = l := by omega
        have hq' : q = q0 := by rw [← H.out, ← hq.out, ← hll.out, List.take_length]
        subst hq'
        go_wp2
        go_ret
        exact ⟨rfl, rfl⟩
end Go.Proofs.Ytnllacoimffjpaa
