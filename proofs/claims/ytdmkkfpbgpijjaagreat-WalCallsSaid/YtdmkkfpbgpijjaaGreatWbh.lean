/- WalCalls' guard: great. What layer 2's Open answers, for the stages above it. The document's own answers for layer 2: exclusive or bit by bit, More, Sum, Three, Seal, Open. (for the stages above layer 2) The document's own answers for layer 2, gone on: Sum, Three, Seal, Open. (for the stages above layer 2) The document's own log (concordatref05): four, number. The document's own log (concordatref05): Sector. -/
import Derived.Test.YtdmkkfpbgpijjaaGreatWbg
import Derived.Test.YtdmkkfpbgpijjaaGreatWbd
import Derived.Test.YtdmkkfpbgpijjaaGreatWaa
namespace Go.Proofs.YtdmkkfpbgpijjaaGreat
open Go.RowKit Go.Deep
set_option linter.unusedVariables false

def sumR (cs : List Call5) : Nat := (cs.map (·.rs.length)).sum
theorem sumR_snoc (cs : List Call5) (k : Nat) (h : k < cs.length) : sumR (cs.take (k + 1)) = sumR (cs.take k) + cs[k].rs.length := by
  unfold sumR
  rw [List.take_succ_eq_append_getElem h, List.map_append, List.sum_append]
  simp
structure Few5 (cs : List Call5) : Prop where
  len : cs.length ≤ 50
  recs : sumR cs ≤ 200
  data : ∀ x ∈ cs, x.zs.length ≤ 100
def GreatSays (cs : List Call5) (w : World) (e : Ending) (w' : World) : Prop := ∃ b, e = .returned (.bool b) ∧ w = w' ∧ (b = false → Few5 cs)
set_option maxRecDepth 100000 in
set_option maxHeartbeats 2000000 in
theorem great5 (A : Option Addr) (cs : List Call5) (l c : Nat) (w : World) (h : Calls5 w A cs) (hl : cs.length = l) (hm : l ≤ maxLen) (hok : ∀ x ∈ cs, okCall5 x) : Calls Tryz.prog 5 #[.slice A l c] w (GreatSays cs w) := by
  unfold maxLen at hm
  have HL := Lib.hid hl
  have HH := Lib.hid h
  have HOK := Lib.hid hok
  clear hl h hok
  by_cases hb : 50 < l
  · have hbi : (50 : Int) < (l : Int) := by omega
    have hbd : decide ((50 : Int) < (l : Int)) = true := by simp; omega
    go_enter Tryz.func5, Tryz.ntmps5
    go_wp2
    go_ret
    exact ⟨true, rfl, rfl, fun e => by cases e⟩
  · have hbi : ¬ ((50 : Int) < (l : Int)) := by omega
    have hbd : decide ((50 : Int) < (l : Int)) = false := by simp; omega
    go_enter Tryz.func5, Tryz.ntmps5
    go_wp2
    go_loop [3, 4] (fun n i => ∃ (k m : Nat), k ≤ l ∧ i = .int .i64 k ∧ n = .int .i64 m ∧ m = sumR (cs.take k) ∧ m ≤ 200 ∧ ∀ x ∈ cs.take k, x.zs.length ≤ 100) (fun _ i => l - (intOf i).toNat)
    case atStart => exact ⟨0, 0, Nat.zero_le _, rfl, rfl, rfl, by omega, fun x hx => by simp at hx⟩
    case round =>
      obtain ⟨k, m, hk, rfl, rfl, hms, hm200, hzs⟩ := hrel
      have HMS := Lib.hid hms
      have HZS := Lib.hid hzs
      clear hms hzs
      by_cases hlt : k < l
      · have hlti : (k : Int) < (l : Int) := by omega
        have hltd : decide (k < l) = true := by simpa using hlt
        have hkl : k < cs.length := by rw [HL.out]; exact hlt
        obtain ⟨b, off, rfl, hbl, hat⟩ := HH.out (by omega)
        have hrow := (hat k cs[k] (List.getElem?_eq_getElem hkl)).row
        have HSN := Lib.hid (sumR_snoc cs k hkl)
        have HTK := Lib.hid (List.take_succ_eq_append_getElem hkl)
        have okx := HOK.out cs[k] (List.getElem_mem _)
        have hlr := okx.lr
        have hlz := okx.lz
        unfold maxLen at hlz
        generalize cs[k] = x at *
        have x4 : w.cell? ⟨b, off + k * 6 + 4, none⟩ = some (.slice x.A x.rs.length x.c) := hrow 4 _ rfl
        have x5 : w.cell? ⟨b, off + k * 6 + 5, none⟩ = some (.slice x.D x.zs.length x.d) := hrow 5 _ rfl
        obtain ⟨r, hr⟩ : ∃ r, x.rs.length = r := ⟨_, rfl⟩
        obtain ⟨z, hz⟩ : ∃ z, x.zs.length = z := ⟨_, rfl⟩
        rw [hr] at x4 hlr HSN
        rw [hz] at x5 hlz
        have HZ := Lib.hid hz
        clear hat hrow okx hr hz hkl
        by_cases h2 : 200 < m + r
        · have h2i : (200 : Int) < (m : Int) + (r : Int) := by omega
          have h2d : decide ((200 : Int) < (m : Int) + (r : Int)) = true := by simp; omega
          go_wp2
          go_ret
          exact ⟨true, rfl, rfl, fun e => by cases e⟩
        · have h2i : ¬ ((200 : Int) < (m : Int) + (r : Int)) := by omega
          have h2d : decide ((200 : Int) < (m : Int) + (r : Int)) = false := by simp; omega
          by_cases h3 : 100 < z
          · have h3i : (100 : Int) < (z : Int) := by omega
            have h3d : decide ((100 : Int) < (z : Int)) = true := by simp; omega
            go_wp2
            go_ret
            exact ⟨true, rfl, rfl, fun e => by cases e⟩
          · have h3i : ¬ ((100 : Int) < (z : Int)) := by omega
            have h3d : decide ((100 : Int) < (z : Int)) = false := by simp; omega
            go_wp2
            go_round
            case rel =>
              refine ⟨k + 1, m + r, by omega, by go_num, by go_num, by rw [HSN.out, ← HMS.out], by omega, fun y hy => ?_⟩
              rw [HTK.out] at hy
              rcases List.mem_append.1 hy with q | q
              · exact HZS.out y q
              · rw [List.mem_singleton.1 q, HZ.out]; omega
            case measure => simp [intOf]; omega
      · obtain rfl : k = l := by omega
        have hltd : decide (k < k) = false := by simp
        have htk : cs.take k = cs := List.take_of_length_le (by rw [HL.out]; exact Nat.le_refl _)
        rw [htk] at HMS HZS
        clear htk
        go_wp2
        go_ret
        exact ⟨false, rfl, rfl, fun _ => ⟨by rw [HL.out]; omega, by rw [← HMS.out]; exact hm200, HZS.out⟩⟩
end Go.Proofs.YtdmkkfpbgpijjaaGreat
namespace Go.Proofs.YtdmkkfpbgpijjaaGreat
open Go.RowKit Go.Deep
set_option linter.unusedVariables false

def OpenSays (xs : List Int) (o : Bool) (w : World) (e : Ending) (w' : World) : Prop := ∃ A c, e = .returned (.tuple #[.slice A xs.length c, .bool o]) ∧ Good A c xs w' ∧ Below w.heap.size w w'
end Go.Proofs.YtdmkkfpbgpijjaaGreat
namespace Go.Proofs.YtdmkkfpbgpijjaaGreat
open Go.RowKit Go.Deep
set_option linter.unusedVariables false


theorem xor_mod2 (u v : Nat) : (u ^^^ v) % 2 = (u + v) % 2 := by
  have h := Nat.xor_mod_two_pow (a := u) (b := v) (n := 1)
  rw [Nat.pow_one] at h
  rw [h]
  rcases Nat.mod_two_eq_zero_or_one u with a | a <;> rcases Nat.mod_two_eq_zero_or_one v with b | b <;> rw [a, b] <;> simp <;> omega
/-- Where the exclusive or stands behind k bits. -/
structure XorAt (x y k a b p o : Nat) : Prop where
  a : x / 2 ^ k = a
  b : y / 2 ^ k = b
  p : 2 ^ k = p
  o : (x ^^^ y) % 2 ^ k = o
theorem XorAt.start (x y : Nat) : XorAt x y 0 x y 1 0 := ⟨by simp, by simp, by simp, by simp [Nat.mod_one]⟩
theorem XorAt.step {x y k a b p o : Nat} (h : XorAt x y k a b p o) : XorAt x y (k + 1) (a / 2) (b / 2) (p * 2) (o + p * ((a + b) % 2)) := by
  obtain ⟨rfl, rfl, rfl, rfl⟩ := h
  refine ⟨?_, ?_, ?_, ?_⟩
  · rw [Nat.pow_succ, Nat.div_div_eq_div_mul]
  · rw [Nat.pow_succ, Nat.div_div_eq_div_mul]
  · rw [Nat.pow_succ]
  · rw [Nat.mod_pow_succ, Nat.xor_div_two_pow, xor_mod2]
theorem XorAt.lt {x y k a b p o : Nat} (h : XorAt x y k a b p o) (hk : k ≤ 25) (hx : x < 33554432) (hy : y < 33554432) : a < 33554432 ∧ b < 33554432 ∧ p ≤ 33554432 ∧ o < p := by
  obtain ⟨rfl, rfl, rfl, rfl⟩ := h
  have h1 : 2 ^ k ≤ 2 ^ 25 := Nat.pow_le_pow_right (by decide) hk
  have h2 := Nat.div_le_self x (2 ^ k)
  have h3 := Nat.div_le_self y (2 ^ k)
  exact ⟨by omega, by omega, by omega, Nat.mod_lt _ (Nat.two_pow_pos k)⟩
theorem XorAt.same {x y k a b p o : Nat} (h : XorAt x y k a b p o) (e : a % 2 = b % 2) : XorAt x y (k + 1) (a / 2) (b / 2) (p * 2) o := by
  have := h.step
  rwa [show (a + b) % 2 = 0 by omega, Nat.mul_zero, Nat.add_zero] at this
theorem XorAt.other {x y k a b p o : Nat} (h : XorAt x y k a b p o) (e : a % 2 ≠ b % 2) : XorAt x y (k + 1) (a / 2) (b / 2) (p * 2) (o + p) := by
  have := h.step
  rwa [show (a + b) % 2 = 1 by omega, Nat.mul_one] at this
theorem XorAt.done {x y a b p o : Nat} (h : XorAt x y 25 a b p o) (hx : x < 33554432) (hy : y < 33554432) : x ^^^ y = o := by
  have := h.o
  rwa [Nat.mod_eq_of_lt (Nat.xor_lt_two_pow (n := 25) (by omega) (by omega))] at this
set_option maxRecDepth 100000 in
set_option maxHeartbeats 1000000 in
theorem refXor_any (x y r : Nat) (X Y : Int) (hX : X = x) (hY : Y = y) (hx : x < 33554432) (hy : y < 33554432) (hr : Hid (x ^^^ y = r)) (w : World) :
    Calls Tryz.prog 110 #[.int .i64 X, .int .i64 Y] w fun e w' => e = .returned (.int .i64 (r : Int)) ∧ w = w' := by
  subst hX hY
  have h0 := Lib.hid (XorAt.start x y)
  go_enter Tryz.func110, Tryz.ntmps110
  go_wp2
  go_loop [0, 1, 5, 6, 7] (fun sa sb so sp si => ∃ k a b p o : Nat, k ≤ 25 ∧ si = .int .i64 k ∧ sa = .int .i64 a ∧ sb = .int .i64 b ∧ sp = .int .i64 p ∧ so = .int .i64 o ∧ Hid (XorAt x y k a b p o)) (fun _ _ _ _ si => 25 - (intOf si).toNat)
  case atStart => exact ⟨0, x, y, 1, 0, by omega, rfl, rfl, rfl, rfl, rfl, h0⟩
  case round =>
    obtain ⟨k, a, b, p, o, hk, rfl, rfl, rfl, rfl, rfl, H⟩ := hrel
    obtain ⟨l1, l2, l3, l4⟩ := H.out.lt hk hx hy
    have m1 : (a : Int).tmod 2 = ((a % 2 : Nat) : Int) := by rw [Int.tmod_eq_emod_of_nonneg (by omega)]; omega
    have m2 : (b : Int).tmod 2 = ((b % 2 : Nat) : Int) := by rw [Int.tmod_eq_emod_of_nonneg (by omega)]; omega
    have d1 : (a : Int).tdiv 2 = ((a / 2 : Nat) : Int) := by rw [Int.tdiv_eq_ediv_of_nonneg (by omega)]; omega
    have d2 : (b : Int).tdiv 2 = ((b / 2 : Nat) : Int) := by rw [Int.tdiv_eq_ediv_of_nonneg (by omega)]; omega
    by_cases hlt : k < 25
    · by_cases e : a % 2 = b % 2
      · have H2 := Lib.hid (H.out.same e)
        go_wp2
        go_round
        case rel => exact ⟨k + 1, a / 2, b / 2, p * 2, o, by omega, by go_num, by go_num, by go_num, by go_num, rfl, H2⟩
        case measure => simp [intOf]; omega
      · have H2 := Lib.hid (H.out.other e)
        go_wp2
        go_round
        case rel => exact ⟨k + 1, a / 2, b / 2, p * 2, o + p, by omega, by go_num, by go_num, by go_num, by go_num, by go_num, H2⟩
        case measure => simp [intOf]; omega
    · obtain rfl : k = 25 := by omega
      obtain rfl : o = r := by rw [← H.out.done hx hy]; exact hr.out
      go_wp2
      go_ret
      exact ⟨rfl, rfl⟩

/-! ### More -/
theorem itd_next (m p r : Nat) (h : itd m p = r) : itd (m + 1) p = dbl r := by rw [itd_add, h, itd_s, itd_0]
theorem crc_next (s0 j q : Nat) (zs : List Int) (hj : j < zs.length) (h : crc s0 (bytesOf (zs.take j)) = q) : crc s0 (bytesOf (zs.take (j + 1))) = itd 8 (q ^^^ (zs[j]?.getD 0).toNat * 65536) := by
  rw [List.take_succ_eq_append_getElem hj, bytesOf_append, crc_append, h]
  simp only [List.getElem?_eq_getElem hj, Option.getD_some]
  rfl
theorem tmod_neg (n : Int) (h : n < 0) : n.tmod 16777216 = -((-n) % 16777216) := by
  have e := Int.neg_tmod (-n) 16777216
  rw [Int.neg_neg] at e
  rw [e, Int.tmod_eq_emod_of_nonneg (by omega)]
theorem low24_tmod (n : Int) : n.tmod 16777216 = ((low24 n : Nat) : Int) ∨ n.tmod 16777216 = ((low24 n : Nat) : Int) - 16777216 := by
  unfold low24
  by_cases h : n < 0
  · rw [tmod_neg n h]; omega
  · rw [Int.tmod_eq_emod_of_nonneg (by omega)]; omega
set_option maxRecDepth 10000 in
set_option maxHeartbeats 2000000 in
theorem refMore_core (A : Option Addr) (zs : List Int) (c l s0 q0 : Nat) (n : Int) (hn : n.tmod 16777216 = (s0 : Int) ∨ n.tmod 16777216 = (s0 : Int) - 16777216) (hs0 : s0 < 16777216) (hll : Hid (zs.length = l)) (hz : isBytes zs) (hl : l ≤ 2100) (hq : Hid (crc s0 (bytesOf zs) = q0)) (w : World) (g : Ints .u8 w.heap.size w A zs) :
    Calls Tryz.prog 98 #[.int .i64 n, .slice A l c] w fun e w' => e = .returned (.int .i64 (q0 : Int)) ∧ w = w' := by
  rcases hn with hn | hn
  all_goals
    go_enter Tryz.func98, Tryz.ntmps98
    go_wp2
    go_loop [5, 6, 7] (fun s i _ => ∃ j q : Nat, j ≤ l ∧ i = .int .i64 j ∧ s = .int .i64 q ∧ q < 16777216 ∧ Hid (crc s0 (bytesOf (zs.take j)) = q)) (fun _ i _ => l - (intOf i).toNat)
    case atStart => exact ⟨0, s0, by omega, rfl, by go_num, hs0, Lib.hid rfl⟩
    case round =>
      obtain ⟨j, q, hj, rfl, rfl, hql, H⟩ := hrel
      by_cases hlt : j < l
      · obtain ⟨b, off, rfl, hb, hc⟩ := g (by have := hll.out; omega)
        have hcj := hc j (by have := hll.out; omega)
        have hzz := hz.at j
        have hnx := Lib.hid (crc_next s0 j q zs (by have := hll.out; omega) H.out)
        clear hc
        generalize zs[j]?.getD 0 = z at *
        obtain ⟨y, rfl⟩ : ∃ y : Nat, z = y := ⟨z.toNat, by omega⟩
        rw [Int.toNat_natCast] at hnx
        have hp : q ^^^ y * 65536 < 16777216 := xor24 _ _ hql (by omega)
        have cx := refXor_any q (y * 65536) (q ^^^ y * 65536) q ((y : Int) * 65536) rfl (by omega) (by omega) (by omega) (Lib.hid rfl)
        obtain ⟨hz1, hz2⟩ := hzz
        generalize q ^^^ y * 65536 = p at *
        go_wp2_with (go_at_call 110; refine (cx _).mono ?_; rintro e w' ⟨rfl, rfl⟩)
        clear cx
        go_loop [5, 7] (fun s k => ∃ m r : Nat, m ≤ 8 ∧ k = .int .i64 m ∧ s = .int .i64 r ∧ r < 16777216 ∧ Hid (itd m p = r)) (fun _ k => 8 - (intOf k).toNat)
        case atStart => exact ⟨0, p, by omega, rfl, rfl, hp, Lib.hid (itd_0 p)⟩
        case round =>
          obtain ⟨m, r, hm, rfl, rfl, hrl, R⟩ := hrel
          by_cases hlt8 : m < 8
          · have hn8 := Lib.hid (itd_next m p r R.out)
            by_cases hbig : 16777216 ≤ 2 * r
            · have hbI : (16777216 : Int) ≤ (r : Int) * 2 := by omega
              have hd : dbl r = (2 * r) ^^^ 25578747 := by unfold dbl; rw [if_pos hbig]
              have hdl := dbl_lt r hrl
              rw [hd] at hdl hn8
              have cx := refXor_any (2 * r) 25578747 ((2 * r) ^^^ 25578747) ((r : Int) * 2) 25578747 (by omega) rfl (by omega) (by omega) (Lib.hid rfl)
              clear hd hbig
              generalize (2 * r) ^^^ 25578747 = r2 at *
              go_wp2_with (go_at_call 110; refine (cx _).mono ?_; rintro e w' ⟨rfl, rfl⟩)
              have hdl := Lib.hid hdl
              clear hrl hql hp hs0 hbI
              go_round
              case rel => first | exact ⟨m + 1, r2, by omega, by go_num, rfl, hdl.out, hn8⟩ | exact ⟨m + 1, by omega, by omega, r2, rfl, hdl.out, hn8⟩
              case measure => simp [intOf]; omega
            · have hd : dbl r = 2 * r := by unfold dbl; rw [if_neg hbig]
              rw [hd] at hn8
              clear hd
              have hbI : ¬ ((16777216 : Int) ≤ (r : Int) * 2) := by omega
              have hbig := Lib.hid hbig
              go_wp2
              clear hrl hql hp hs0 hbI
              go_round
              case rel => first | exact ⟨m + 1, 2 * r, by omega, by go_num, by go_num, by have := hbig.out; omega, hn8⟩ | exact ⟨m + 1, by omega, by omega, 2 * r, by omega, by have := hbig.out; omega, hn8⟩
              case measure => simp [intOf]; omega
          · obtain rfl : m = 8 := by omega
            have hnx2 := Lib.hid (hnx.out.trans R.out)
            have hrl := Lib.hid hrl
            go_wp2
            go_round
            case rel => first | exact ⟨j + 1, r, by omega, by go_num, rfl, hrl.out, hnx2⟩ | exact ⟨j + 1, by omega, by omega, r, rfl, hrl.out, hnx2⟩
            case measure => simp [intOf]; omega
      · obtain rfl : j = l := by omega
        have hq' : q = q0 := by rw [← H.out, ← hq.out, ← hll.out, List.take_length]
        subst hq'
        go_wp2
        go_ret
        exact ⟨rfl, rfl⟩
end Go.Proofs.YtdmkkfpbgpijjaaGreat
namespace Go.Proofs.YtdmkkfpbgpijjaaGreat
open Go.RowKit Go.Deep
set_option linter.unusedVariables false


theorem refMore (A : Option Addr) (zs : List Int) (c l q : Nat) (n : Int) (hll : zs.length = l) (hz : isBytes zs) (hl : l ≤ 2100) (hq : crc (low24 n) (bytesOf zs) = q) (w : World) (g : Good A c zs w) :
    Calls Tryz.prog 98 #[.int .i64 n, .slice A l c] w fun e w' => e = .returned (.int .i64 (q : Int)) ∧ w = w' :=
  refMore_core A zs c l (low24 n) q n (low24_tmod n) (low24_lt n) (Lib.hid hll) hz hl (Lib.hid hq) w g.1
set_option maxRecDepth 100000 in
set_option maxHeartbeats 400000 in
theorem refSum (A : Option Addr) (zs : List Int) (c l q : Nat) (hll : zs.length = l) (hz : isBytes zs) (hl : l ≤ 2100) (hq : sumB zs = q) (w : World) (g : Good A c zs w) :
    Calls Tryz.prog 82 #[.slice A l c] w fun e w' => e = .returned (.int .i64 (q : Int)) ∧ w = w' := by
  have h := Lib.hid (refMore A zs c l q 11994318 hll hz hl hq w g)
  clear hq hll hz
  go_enter Tryz.func82, Tryz.ntmps82
  go_wp2_with fail
  refine h.out.mono ?_
  rintro e w' ⟨rfl, rfl⟩
  go_wp2
  go_ret
  exact ⟨rfl, rfl⟩
theorem lit3 (w : World) (a b c : Int) (ts : List Int) (h : [a, b, c] = ts) : GivesB ts w (.returned (.slice (some ⟨w.heap.size, 0, none⟩) 3 3)) (w.alloc (.cells #[.int .u8 a, .int .u8 b, .int .u8 c] 5)) := by
  subst h
  exact ⟨_, rfl, World.ownsRow_lit w #[.int .u8 a, .int .u8 b, .int .u8 c] 3 (Nat.le_refl _) (by simp [maxLen]) rfl, (Below.refl _ _).alloc (Nat.le_refl _) _⟩
set_option maxRecDepth 100000 in
set_option maxHeartbeats 1000000 in
theorem refThree (n : Int) (ts : List Int) (ht : threeL (low24 n) = ts) (w : World) :
    Calls Tryz.prog 81 #[.int .i64 n] w (GivesB ts w) := by
  have hn := low24_tmod n
  have hs0 := low24_lt n
  generalize low24 n = s0 at *
  have h3 : [(s0 : Int) / 65536, (s0 : Int) / 256 % 256, (s0 : Int) % 256] = ts := by
    rw [← ht]; unfold threeL
    rw [show s0 / 65536 % 256 = s0 / 65536 by omega]; simp
  have h3 := Lib.hid h3
  clear ht
  rcases hn with hn | hn
  all_goals
    go_enter Tryz.func81, Tryz.ntmps81
    go_wp2
    go_ret
    exact lit3 w _ _ _ ts h3.out
set_option maxRecDepth 100000 in
set_option maxHeartbeats 1000000 in
theorem refSeal (A : Option Addr) (zs ss : List Int) (c l : Nat) (hll : zs.length = l) (hz : isBytes zs) (hl : l ≤ 2100) (hs : sealL zs = ss) (w : World) (g : Good A c zs w) :
    Calls Tryz.prog 69 #[.slice A l c] w (GivesB ss w) := by
  obtain ⟨q, hq⟩ : ∃ q, sumB zs = q := ⟨_, rfl⟩
  have hql : q < 16777216 := by rw [← hq]; exact sumB_lt hz
  have hs2 : zs ++ threeL q = ss := by rw [← hs, ← hq]; rfl
  have c1 := Lib.hid (copyB A zs c l hll hl w g)
  have c2 := Lib.hid (fun W => refSum A zs c l q hll hz hl hq W)
  have c3 := Lib.hid (fun W => refThree q (threeL q) (by rw [low24_of q hql]) W)
  have hs2 := Lib.hid hs2
  clear hs hq hz
  go_enter Tryz.func69, Tryz.ntmps69
  go_wp2_with fail
  refine c1.out.mono ?_
  rintro e w1 ⟨v1, rfl, o1, k1⟩
  go_wp2_with fail
  refine (c2.out w1 (g.below k1)).mono ?_
  rintro e w' ⟨rfl, rfl⟩
  go_wp2_with fail
  refine (c3.out w1).mono ?_
  rintro e w2 ⟨v2, rfl, o2, k2⟩
  obtain ⟨A2, c2', rfl, g2⟩ := o2.good
  have o1' := o1.below k2
  have k2' := below_more k1 k2 (Nat.le_refl _)
  clear c1 c2 c3 o1 o2 k1 k2
  go_wp2_with (at_builtin; refine wpList_appendB rfl _ _ rfl w.heap.size v1 zs rfl o1' A2 (threeL q) _ c2' rfl rfl g2 (by rw [threeL_length]; omega) k2'.size w k2' ?_; intro v3 w3 o3 k3)
  rw [hs2.out] at o3
  clear o1' g2 k2' hs2
  go_ret
  exact ⟨v3, rfl, o3, k3⟩
def openN (zs : List Int) : Bool := decide (3 ≤ zs.length) && (sealL (zs.take (zs.length - 3)) == zs)
theorem openN_eq (zs : List Int) : openN zs = openOK zs := by
  unfold openN openOK
  by_cases h : 3 ≤ zs.length
  · rw [decide_eq_true h, Bool.true_and, Bool.true_and, Bool.eq_iff_iff, beq_iff_eq, beq_iff_eq]
    unfold sealL
    constructor
    · intro e
      have := congrArg (List.drop (zs.length - 3)) e
      rw [List.drop_append_of_le_length (by rw [List.length_take]; omega)] at this
      rw [List.drop_eq_nil_of_le (by rw [List.length_take]; omega), List.nil_append] at this
      exact this.symm
    · intro e
      rw [← e, List.take_append_drop]
  · rw [decide_eq_false h, Bool.false_and, Bool.false_and]
set_option maxRecDepth 100000 in
set_option maxHeartbeats 1000000 in
theorem refOpen_few (A : Option Addr) (c l : Nat) (hl : l < 3) (w : World) :
    Calls Tryz.prog 63 #[.slice A l c] w fun e w' => e = .returned (.tuple #[.slice none 0 0, .bool false]) ∧ w = w' := by
  go_enter Tryz.func63, Tryz.ntmps63
  go_wp2
  go_ret2
  exact ⟨rfl, rfl⟩
set_option maxRecDepth 100000 in
set_option maxHeartbeats 1000000 in
theorem refOpen_no (A : Option Addr) (zs : List Int) (c k : Nat) (hll : zs.length = k + 3) (hz : isBytes zs) (hl : k + 3 ≤ 2100) (ho : (sealL (zs.take k) == zs) = false) (w : World) (g : Good A c zs w) :
    Calls Tryz.prog 63 #[.slice A (k + 3) c] w (OpenSays [] false w) := by
  have hkc : k + 3 ≤ c := by have := g.2.1; omega
  obtain ⟨b, off, rfl⟩ := g.some (by omega)
  have hlt : (zs.take k).length = k := by rw [List.length_take]; omega
  have gt := g.take k
  have hzt := hz.take k
  have c1 := Lib.hid (fun W => refSeal (some ⟨b, off, none⟩) (zs.take k) _ c k hlt hzt (by omega) rfl W)
  have hsl : (sealL (zs.take k)).length = k + 3 := by rw [sealL_length, hlt]
  have c2 := Lib.hid (fun A2 c2 W => sameB A2 (some ⟨b, off, none⟩) (sealL (zs.take k)) zs c2 c (k + 3) (k + 3) false hsl hll (by omega) (by omega) ho W)
  clear ho hll hz hzt hlt
  have i0 : (0 : Int) ≤ (k : Int) := by omega
  have i1 : (k : Int) ≤ (c : Int) := by omega
  have i2 : ((k + 3 : Nat) : Int) - 3 = (k : Int) := by omega
  go_enter Tryz.func63, Tryz.ntmps63
  go_wp2_with fail
  refine (c1.out w gt).mono ?_
  rintro e w1 ⟨v1, rfl, o1, k1⟩
  obtain ⟨A1, c1', rfl, g1⟩ := o1.good
  have gz := g.below k1
  clear o1 g gt c1
  rw [hsl]
  go_wp2_with fail
  refine (c2.out A1 c1' w1 g1 gz).mono ?_
  rintro e w2 ⟨rfl, k2⟩
  have b2 := below_more k1 k2 (Nat.le_refl _)
  clear c2 k1 k2 g1 gz
  go_wp2
  go_ret2
  exact ⟨none, 0, rfl, Good.nil _, b2⟩
set_option maxRecDepth 100000 in
set_option maxHeartbeats 1000000 in
theorem refOpen_yes (A : Option Addr) (zs : List Int) (c k : Nat) (hll : zs.length = k + 3) (hz : isBytes zs) (hl : k + 3 ≤ 2100) (ho : (sealL (zs.take k) == zs) = true) (w : World) (g : Good A c zs w) :
    Calls Tryz.prog 63 #[.slice A (k + 3) c] w (OpenSays (zs.take k) true w) := by
  have hkc : k + 3 ≤ c := by have := g.2.1; omega
  obtain ⟨b, off, rfl⟩ := g.some (by omega)
  have hlt : (zs.take k).length = k := by rw [List.length_take]; omega
  have gt := g.take k
  have hzt := hz.take k
  have c1 := Lib.hid (fun W => refSeal (some ⟨b, off, none⟩) (zs.take k) _ c k hlt hzt (by omega) rfl W)
  have hsl : (sealL (zs.take k)).length = k + 3 := by rw [sealL_length, hlt]
  have c2 := Lib.hid (fun A2 c2 W => sameB A2 (some ⟨b, off, none⟩) (sealL (zs.take k)) zs c2 c (k + 3) (k + 3) true hsl hll (by omega) (by omega) ho W)
  have c3 := Lib.hid (fun W => copyB (some ⟨b, off, none⟩) (zs.take k) c k hlt (by omega) W)
  clear ho hll hz hzt
  have hlt := Lib.hid hlt
  generalize zs.take k = xs at *
  have i0 : (0 : Int) ≤ (k : Int) := by omega
  have i1 : (k : Int) ≤ (c : Int) := by omega
  have i2 : ((k + 3 : Nat) : Int) - 3 = (k : Int) := by omega
  go_enter Tryz.func63, Tryz.ntmps63
  go_wp2_with fail
  refine (c1.out w gt).mono ?_
  rintro e w1 ⟨v1, rfl, o1, k1⟩
  obtain ⟨A1, c1', rfl, g1⟩ := o1.good
  have gz := g.below k1
  have gx := gt.below k1
  clear o1 g gt c1
  rw [hsl]
  go_wp2_with fail
  refine (c2.out A1 c1' w1 g1 gz).mono ?_
  rintro e w2 ⟨rfl, k2⟩
  have b2 := below_more k1 k2 (Nat.le_refl _)
  have gx2 := gx.below k2
  clear c2 k1 k2 g1 gz gx
  go_wp2_with fail
  refine (c3.out w2 gx2).mono ?_
  rintro e w3 ⟨v3, rfl, o3, k3⟩
  obtain ⟨A3, c3', rfl, g3⟩ := o3.good
  have b3 := below_more b2 k3 (Nat.le_refl _)
  clear c3 k3 o3 b2 gx2
  go_wp2
  go_ret2
  exact ⟨A3, c3', by rw [hlt.out]; rfl, g3, b3⟩
theorem refOpen (A : Option Addr) (zs xs : List Int) (c l : Nat) (o : Bool) (hll : zs.length = l) (hz : isBytes zs) (hl : l ≤ 2100) (ho : openOK zs = o) (hx : openL zs = xs) (w : World) (g : Good A c zs w) :
    Calls Tryz.prog 63 #[.slice A l c] w (OpenSays xs o w) := by
  by_cases h3 : 3 ≤ l
  · obtain ⟨k, rfl⟩ : ∃ k, l = k + 3 := ⟨l - 3, by omega⟩
    have e := openN_eq zs
    unfold openN at e
    rw [hll, decide_eq_true h3, Bool.true_and, show k + 3 - 3 = k by omega, ho] at e
    cases o with
    | false =>
      rw [openL_no ho] at hx
      subst hx
      exact refOpen_no A zs c k hll hz hl e w g
    | true =>
      unfold openL at hx
      rw [if_pos ho, hll, show k + 3 - 3 = k by omega] at hx
      subst hx
      exact refOpen_yes A zs c k hll hz hl e w g
  · have e := openN_eq zs
    unfold openN at e
    rw [hll, decide_eq_false h3, Bool.false_and, ho] at e
    subst e
    rw [openL_no ho] at hx
    subst hx
    refine (refOpen_few A c l (by omega) w).mono ?_
    rintro e w' ⟨rfl, rfl⟩
    exact ⟨none, 0, rfl, Good.nil _, Below.refl _ _⟩
end Go.Proofs.YtdmkkfpbgpijjaaGreat
namespace Go.Proofs.YtdmkkfpbgpijjaaGreat
open Go.RowKit Go.Deep
set_option linter.unusedVariables false

theorem w8 (n : Nat) : IntKind.u8.wrap (n : Int) = ((n % 256 : Nat) : Int) := by simp [IntKind.wrap, IntKind.signed, IntKind.bits]
theorem four0 (h : Nat) : IntKind.u8.wrap ((h : Int) % 256) = ((byteAt h 0 : Nat) : Int) := by
  rw [show (h : Int) % 256 = ((h % 256 : Nat) : Int) by omega, w8]; unfold byteAt; simp
theorem four1 (h : Nat) : IntKind.u8.wrap ((h : Int) / 256 % 256) = ((byteAt h 1 : Nat) : Int) := by
  rw [show (h : Int) / 256 % 256 = ((h / 256 % 256 : Nat) : Int) by omega, w8]; unfold byteAt; simp
theorem four2 (h : Nat) : IntKind.u8.wrap ((h : Int) / 65536 % 256) = ((byteAt h 2 : Nat) : Int) := by
  rw [show (h : Int) / 65536 % 256 = ((h / 65536 % 256 : Nat) : Int) by omega, w8]; unfold byteAt; simp
theorem four3 (h : Nat) : IntKind.u8.wrap ((h : Int) / 16777216 % 256) = ((byteAt h 3 : Nat) : Int) := by
  rw [show (h : Int) / 16777216 % 256 = ((h / 16777216 % 256 : Nat) : Int) by omega, w8]; unfold byteAt; simp
theorem bytes_four5 (h : Nat) : bytesL h 4 = [((byteAt h 0 : Nat) : Int), ((byteAt h 1 : Nat) : Int), ((byteAt h 2 : Nat) : Int), ((byteAt h 3 : Nat) : Int)] := by simp [bytesL, List.range_succ]
theorem owns_lit5 (w : World) (zs : List Int) (C : Array Value := (zs.map (Value.int .u8)).toArray) (hC : C = (zs.map (Value.int .u8)).toArray := by rfl) (hl : zs.length ≤ 10000 := by simp) : Owns w.heap.size (w.alloc (.cells C 5)) (.slice (some ⟨w.heap.size, 0, none⟩) zs.length zs.length) zs := by
  subst hC
  exact ⟨by simp, .inr ⟨w.heap.size, zs.length, _, rfl, Nat.le_refl _, heap_alloc_new w _, Nat.le_refl _, by simp only [maxLen]; omega, by simp, by simp; exact List.take_of_length_le (by simp)⟩⟩
set_option maxRecDepth 100000 in
set_option maxHeartbeats 1000000 in
theorem refFour (n : Nat) (h : n < 4294967296) (w : World) : Calls Tryz.prog 68 #[.int .i64 (n : Int)] w (GivesB (bytesL n 4) w) := by
  have b0 := four0 n
  have b1 := four1 n
  have b2 := four2 n
  have b3 := four3 n
  rw [bytes_four5 n]
  generalize byteAt n 0 = y0 at *
  generalize byteAt n 1 = y1 at *
  generalize byteAt n 2 = y2 at *
  generalize byteAt n 3 = y3 at *
  have o1 := owns_lit5 w [(y0 : Int), (y1 : Int), (y2 : Int), (y3 : Int)]
  have kx : Below w.heap.size w (w.alloc (.cells #[.int .u8 y0, .int .u8 y1, .int .u8 y2, .int .u8 y3] 5)) := (Below.refl _ _).alloc (Nat.le_refl _) _
  go_enter Tryz.func68, Tryz.ntmps68
  go_wp2
  go_ret
  exact ⟨_, rfl, o1, kx⟩
theorem four_list (zs : List Int) (h : zs.length = 4) : zs = [zs[0]?.getD 0, zs[1]?.getD 0, zs[2]?.getD 0, zs[3]?.getD 0] := by
  match zs, h with
  | [a, b, c, d], _ => rfl
set_option maxRecDepth 100000 in
set_option maxHeartbeats 1000000 in
theorem refNum (A : Option Addr) (c q : Nat) (zs : List Int) (hl : zs.length = 4) (hz : isBytes zs) (hq : fromN zs = q) (w : World) (g : Good A c zs w) :
    Calls Tryz.prog 62 #[.slice A 4 c] w fun e w' => e = .returned (.int .i64 (q : Int)) ∧ Below w.heap.size w w' := by
  obtain ⟨b, off, rfl⟩ := g.some (by omega)
  obtain ⟨b', o', e', hbs, hcs⟩ := g.1 (by omega)
  cases e'
  have x0 : w.cell? ⟨b, off, none⟩ = some (.int .u8 (zs[0]?.getD 0)) := hcs 0 (by omega)
  have x1 : w.cell? ⟨b, off + 1, none⟩ = some (.int .u8 (zs[1]?.getD 0)) := hcs 1 (by omega)
  have x2 : w.cell? ⟨b, off + 2, none⟩ = some (.int .u8 (zs[2]?.getD 0)) := hcs 2 (by omega)
  have x3 : w.cell? ⟨b, off + 3, none⟩ = some (.int .u8 (zs[3]?.getD 0)) := hcs 3 (by omega)
  have hz0 := isBytes_at zs hz 0
  have hz1 := isBytes_at zs hz 1
  have hz2 := isBytes_at zs hz 2
  have hz3 := isBytes_at zs hz 3
  have hw : zs[0]?.getD 0 + 256 * zs[1]?.getD 0 + 65536 * zs[2]?.getD 0 + 16777216 * zs[3]?.getD 0 = (q : Int) := by
    rw [← hq]
    conv => rhs; rw [four_list zs hl]
    simp only [fromN]
    omega
  generalize zs[0]?.getD 0 = z0 at *
  generalize zs[1]?.getD 0 = z1 at *
  generalize zs[2]?.getD 0 = z2 at *
  generalize zs[3]?.getD 0 = z3 at *
  obtain ⟨a0, a1⟩ := hz0
  obtain ⟨a2, a3⟩ := hz1
  obtain ⟨a4, a5⟩ := hz2
  obtain ⟨a6, a7⟩ := hz3
  clear hq hcs
  go_enter Tryz.func62, Tryz.ntmps62
  go_wp2_with fail
  go_region
  go_wp2
  go_ret
  exact ⟨rfl, (Below.refl _ _).drew⟩
end Go.Proofs.YtdmkkfpbgpijjaaGreat
namespace Go.Proofs.YtdmkkfpbgpijjaaGreat
open Go.RowKit Go.Deep
set_option linter.unusedVariables false

def sliceLen : Value → Nat
  | .slice _ n _ => n
  | _ => 0
theorem good_one5 (w : World) (z : Int) : Good (some ⟨w.heap.size, 0, none⟩) 1 [z] (w.alloc (.cells #[.int .u8 z] 5)) := by
  obtain ⟨A, c, e, g⟩ := (owns_lit5 w [z]).good
  injection e with e1 e2 e3
  subst e1 e3
  exact g
def headS (s : Sec) : List Int := bytesL s.n 4 ++ bytesL s.first 4 ++ [((flagN s.data.length s.beg : Nat) : Int)] ++ s.data
theorem headS_len (s : Sec) : (headS s).length = 9 + s.data.length := by simp [headS, bytesL_length]; omega
theorem headS_body (s : Sec) : headS s ++ zeros (16 - s.data.length) = bodyL s := rfl
theorem zeros_snoc (k : Nat) : zeros k ++ [0] = zeros (k + 1) := by simp [zeros, List.replicate_succ']
set_option maxRecDepth 100000 in
set_option maxHeartbeats 4000000 in
theorem refSector (s : Sec) (ok : okS s) (A : Option Addr) (c l f : Nat) (hl : s.data.length = l) (hf : flagN l s.beg = f) (w : World) (g : Good A c s.data w) :
    Calls Tryz.prog 47 #[.int .i64 (s.n : Int), .int .i64 (s.first : Int), .slice A l c, .bool s.beg] w (GivesB (secL s) w) := by
  have F1 : ∀ W, Calls Tryz.prog 68 #[.int .i64 (s.n : Int)] W (GivesB (bytesL s.n 4) W) := fun W => refFour s.n ok.n W
  have F2 : ∀ W, Calls Tryz.prog 68 #[.int .i64 (s.first : Int)] W (GivesB (bytesL s.first 4) W) := fun W => refFour s.first ok.first W
  have h16 : l ≤ 16 := by rw [← hl]; exact ok.len
  have hfl := flagN_lt l s.beg h16
  rw [hf] at hfl
  have hh : headS s = bytesL s.n 4 ++ bytesL s.first 4 ++ [(f : Int)] ++ s.data := by unfold headS; rw [hl, hf]
  have hhl := headS_len s
  have HB := Lib.hid (bodyL_bytes ok)
  have HBL := Lib.hid (bodyL_length ok)
  have hbody : headS s ++ zeros (16 - l) = bodyL s := by rw [← headS_body s, hl]
  have hsec : sealL (bodyL s) ++ bytesL s.n 4 = secL s := rfl
  have hsl := seal_len ok
  rw [hl] at hhl
  have l1 := bytesL_length s.n 4
  have l2 := bytesL_length s.first 4
  have hfb : s.beg = true → IntKind.u8.wrap (128 + (l : Int)) = (f : Int) := fun hb => by
    rw [← hf, hb]; unfold flagN
    rw [if_pos rfl, show (128 : Int) + (l : Int) = ((l + 128 : Nat) : Int) by omega]; exact IntWalk.u8_in _ (by omega)
  have hfn : s.beg = false → IntKind.u8.wrap (l : Int) = (f : Int) := fun hb => by
    rw [← hf, hb]; unfold flagN
    simp only [Bool.false_eq_true, if_false, Nat.add_zero]; exact IntWalk.u8_in _ (by omega)
  have F3 : ∀ v W, Owns w.heap.size W v (bodyL s) → Calls Tryz.prog 69 #[v] W (GivesB (sealL (bodyL s)) W) := fun v W o => by
    obtain ⟨A', c', rfl, g'⟩ := o.good
    exact refSeal A' (bodyL s) _ c' _ rfl HB.out (by rw [HBL.out]; omega) rfl W g'
  obtain ⟨d, hd⟩ : ∃ d, s.data = d := ⟨_, rfl⟩
  rw [hd] at hh g hl
  have HH := Lib.hid hh
  have HHL := Lib.hid hhl
  have HBO := Lib.hid hbody
  have HSE := Lib.hid hsec
  have HSL := Lib.hid hsl
  have HDL := Lib.hid hl
  have L1 := Lib.hid l1
  have L2 := Lib.hid l2
  clear hh hhl hbody hsec hsl hf hl l1 l2
  generalize headS s = hs at *
  generalize bodyL s = bd at *
  generalize secL s = sc at *
  generalize bytesL s.n 4 = n4 at *
  generalize bytesL s.first 4 = f4 at *
  generalize sealL bd = sb at *
  have hbeg : ∃ bg, s.beg = bg := ⟨_, rfl⟩
  obtain ⟨bg, hbg⟩ := hbeg
  rw [hbg] at hfb hfn ⊢
  generalize s.n = n at *
  generalize s.first = fi at *
  clear hd hbg ok HB HBL
  cases bg with
  | true =>
    have hfb := hfb rfl
    clear hfn
    go_enter Tryz.func47, Tryz.ntmps47
    go_wp2_with fail
    (with_reducible refine (F1 _).mono ?_)
    rintro e w1 ⟨v1, rfl, o1, k1⟩
    go_wp2_with fail
    (with_reducible refine (F2 _).mono ?_)
    rintro e w2 ⟨v2, rfl, o2, k2⟩
    obtain ⟨A2, c2, rfl, g2⟩ := o2.good
    have o1' := o1.below k2
    have k12 := below_more k1 k2 (Nat.le_refl _)
    rw [L2.out]
    clear o1 o2 k1 k2
    go_wp2_with (first
      | (at_builtin; refine wpList_appendB rfl _ _ rfl w.heap.size v1 n4 rfl o1' A2 f4 4 c2 rfl L2.out g2 (by rw [L1.out, L2.out]; omega) k12.size w k12 ?_; intro v3 w3 o3 k3; have kx3 : Below w3.heap.size w3 (w3.alloc (.cells #[.int .u8 (f : Int)] 5)) := (Below.refl _ _).alloc (Nat.le_refl _) _; have o3x := o3.below kx3; have k3x := below_more k3 kx3 (Nat.le_refl _); have g3x := good_one5 w3 (f : Int); clear o1' g2 k12 o3 k3 kx3)
      | (at_builtin; refine wpList_appendB rfl _ _ rfl w.heap.size v3 (n4 ++ f4) rfl o3x (some ⟨w3.heap.size, 0, none⟩) [(f : Int)] 1 1 rfl rfl g3x (by rw [List.length_append, L1.out, L2.out]; simp) k3x.size w k3x ?_; intro v4 w4 o4 k4; have gd := g.below k4; clear o3x g3x k3x)
      | (at_builtin; refine wpList_appendB rfl _ _ rfl w.heap.size v4 (n4 ++ f4 ++ [(f : Int)]) rfl o4 A d l c rfl HDL.out gd (by rw [List.length_append, List.length_append, L1.out, L2.out, HDL.out]; simp; omega) k4.size w k4 ?_; intro v5 w5 o5 k5; clear o4 gd k4)
      | fail)
    rw [← HH.out] at o5
    have h0 : ∃ k, k ≤ 16 - l ∧ Owns w.heap.size w5 v5 (hs ++ zeros k) ∧ Below w.heap.size w w5 := ⟨0, Nat.zero_le _, by have : zeros 0 = [] := rfl; rw [this, List.append_nil]; exact o5, k5⟩
    have H0 := Lib.hid h0
    clear h0 o5 k5 g
    go_loopw [9] (fun v wr => ∃ (vv : Value) (k : Nat), vv = v ∧ k ≤ 16 - l ∧ Owns w.heap.size wr vv (hs ++ zeros k) ∧ Below w.heap.size w wr) (fun v _ => 25 - sliceLen v)
    case atStart => obtain ⟨k, a, b, c⟩ := H0.out; exact ⟨_, k, rfl, a, b, c⟩
    case round =>
      obtain ⟨v, k, hvv, hk, own, kw⟩ := hrel
      subst hvv
      clear H0
      obtain ⟨A', c', rfl, g'⟩ := own.good
      obtain ⟨nl, hnl⟩ : ∃ nl, (hs ++ zeros k).length = nl := ⟨_, rfl⟩
      have hn2 : nl = 9 + l + k := by rw [← hnl, List.length_append, HHL.out]; simp [zeros]
      rw [hnl] at own ⊢
      have HNL := Lib.hid hnl
      clear hnl g'
      by_cases hlt : k < 16 - l
      · have dl : decide ((nl : Int) < 25) = true := by simp; omega
        have kx : Below wr.heap.size wr (wr.alloc (.cells #[.int .u8 0] 5)) := (Below.refl _ _).alloc (Nat.le_refl _) _
        have ox := own.below kx
        have kwx := below_more kw kx (Nat.le_refl _)
        have gx := good_one5 wr 0
        have hnl5 : nl < 25 := by omega
        have HN2 := Lib.hid hn2
        clear own kw kx hn2
        go_wp2_with (at_builtin; refine wpList_appendB rfl _ _ rfl w.heap.size (.slice A' nl c') (hs ++ zeros k) rfl ox (some ⟨wr.heap.size, 0, none⟩) [0] 1 1 rfl rfl gx (by rw [HNL.out]; simp; omega) kwx.size w kwx ?_; intro v6 w6 o6 k6)
        rw [List.append_assoc, zeros_snoc] at o6
        obtain ⟨A6, c6, e6, _⟩ := o6.good
        have hl6 : (hs ++ zeros (k + 1)).length = nl + 1 := by rw [List.length_append, HHL.out, HN2.out]; simp [zeros]; omega
        rw [hl6] at e6
        go_roundw
        case rel => exact ⟨_, k + 1, rfl, by omega, o6, k6⟩
        case measure => rw [e6]; simp only [sliceLen]; omega
      · have hk16 : k = 16 - l := by omega
        subst hk16
        rw [HBO.out] at own HNL
        have dl : decide ((nl : Int) < 25) = false := by simp; omega
        have F3' := F3 _ _ own
        clear own hn2 hk hlt F3
        go_wp2_with fail
        (with_reducible refine F3'.mono ?_)
        rintro e w6 ⟨v6, rfl, o6, k6⟩
        have o6b := o6.base (B' := w.heap.size) kw.size
        have kw6 := below_more kw k6 (Nat.le_refl _)
        clear F3' o6 kw k6
        go_wp2_with fail
        (with_reducible refine (F1 _).mono ?_)
        rintro e w7 ⟨v7, rfl, o7, k7⟩
        obtain ⟨A7, c7, rfl, g7⟩ := o7.good
        have o6' := o6b.below k7
        have kw7 := below_more kw6 k7 (Nat.le_refl _)
        rw [L1.out]
        clear o6b o7 k7 kw6 F1
        go_wp2_with (at_builtin; refine wpList_appendB rfl _ _ rfl w.heap.size v6 sb rfl o6' A7 n4 4 c7 rfl L1.out g7 (by rw [HSL.out, L1.out]; omega) kw7.size w kw7 ?_; intro v8 w8 o8 k8)
        rw [HSE.out] at o8
        go_ret
        exact ⟨v8, rfl, o8, k8⟩
  | false =>
    have hfn := hfn rfl
    clear hfb
    go_enter Tryz.func47, Tryz.ntmps47
    go_wp2_with fail
    (with_reducible refine (F1 _).mono ?_)
    rintro e w1 ⟨v1, rfl, o1, k1⟩
    go_wp2_with fail
    (with_reducible refine (F2 _).mono ?_)
    rintro e w2 ⟨v2, rfl, o2, k2⟩
    obtain ⟨A2, c2, rfl, g2⟩ := o2.good
    have o1' := o1.below k2
    have k12 := below_more k1 k2 (Nat.le_refl _)
    rw [L2.out]
    clear o1 o2 k1 k2
    go_wp2_with (first
      | (at_builtin; refine wpList_appendB rfl _ _ rfl w.heap.size v1 n4 rfl o1' A2 f4 4 c2 rfl L2.out g2 (by rw [L1.out, L2.out]; omega) k12.size w k12 ?_; intro v3 w3 o3 k3; have kx3 : Below w3.heap.size w3 (w3.alloc (.cells #[.int .u8 (f : Int)] 5)) := (Below.refl _ _).alloc (Nat.le_refl _) _; have o3x := o3.below kx3; have k3x := below_more k3 kx3 (Nat.le_refl _); have g3x := good_one5 w3 (f : Int); clear o1' g2 k12 o3 k3 kx3)
      | (at_builtin; refine wpList_appendB rfl _ _ rfl w.heap.size v3 (n4 ++ f4) rfl o3x (some ⟨w3.heap.size, 0, none⟩) [(f : Int)] 1 1 rfl rfl g3x (by rw [List.length_append, L1.out, L2.out]; simp) k3x.size w k3x ?_; intro v4 w4 o4 k4; have gd := g.below k4; clear o3x g3x k3x)
      | (at_builtin; refine wpList_appendB rfl _ _ rfl w.heap.size v4 (n4 ++ f4 ++ [(f : Int)]) rfl o4 A d l c rfl HDL.out gd (by rw [List.length_append, List.length_append, L1.out, L2.out, HDL.out]; simp; omega) k4.size w k4 ?_; intro v5 w5 o5 k5; clear o4 gd k4)
      | fail)
    rw [← HH.out] at o5
    have h0 : ∃ k, k ≤ 16 - l ∧ Owns w.heap.size w5 v5 (hs ++ zeros k) ∧ Below w.heap.size w w5 := ⟨0, Nat.zero_le _, by have : zeros 0 = [] := rfl; rw [this, List.append_nil]; exact o5, k5⟩
    have H0 := Lib.hid h0
    clear h0 o5 k5 g
    go_loopw [9] (fun v wr => ∃ (vv : Value) (k : Nat), vv = v ∧ k ≤ 16 - l ∧ Owns w.heap.size wr vv (hs ++ zeros k) ∧ Below w.heap.size w wr) (fun v _ => 25 - sliceLen v)
    case atStart => obtain ⟨k, a, b, c⟩ := H0.out; exact ⟨_, k, rfl, a, b, c⟩
    case round =>
      obtain ⟨v, k, hvv, hk, own, kw⟩ := hrel
      subst hvv
      clear H0
      obtain ⟨A', c', rfl, g'⟩ := own.good
      obtain ⟨nl, hnl⟩ : ∃ nl, (hs ++ zeros k).length = nl := ⟨_, rfl⟩
      have hn2 : nl = 9 + l + k := by rw [← hnl, List.length_append, HHL.out]; simp [zeros]
      rw [hnl] at own ⊢
      have HNL := Lib.hid hnl
      clear hnl g'
      by_cases hlt : k < 16 - l
      · have dl : decide ((nl : Int) < 25) = true := by simp; omega
        have kx : Below wr.heap.size wr (wr.alloc (.cells #[.int .u8 0] 5)) := (Below.refl _ _).alloc (Nat.le_refl _) _
        have ox := own.below kx
        have kwx := below_more kw kx (Nat.le_refl _)
        have gx := good_one5 wr 0
        have hnl5 : nl < 25 := by omega
        have HN2 := Lib.hid hn2
        clear own kw kx hn2
        go_wp2_with (at_builtin; refine wpList_appendB rfl _ _ rfl w.heap.size (.slice A' nl c') (hs ++ zeros k) rfl ox (some ⟨wr.heap.size, 0, none⟩) [0] 1 1 rfl rfl gx (by rw [HNL.out]; simp; omega) kwx.size w kwx ?_; intro v6 w6 o6 k6)
        rw [List.append_assoc, zeros_snoc] at o6
        obtain ⟨A6, c6, e6, _⟩ := o6.good
        have hl6 : (hs ++ zeros (k + 1)).length = nl + 1 := by rw [List.length_append, HHL.out, HN2.out]; simp [zeros]; omega
        rw [hl6] at e6
        go_roundw
        case rel => exact ⟨_, k + 1, rfl, by omega, o6, k6⟩
        case measure => rw [e6]; simp only [sliceLen]; omega
      · have hk16 : k = 16 - l := by omega
        subst hk16
        rw [HBO.out] at own HNL
        have dl : decide ((nl : Int) < 25) = false := by simp; omega
        have F3' := F3 _ _ own
        clear own hn2 hk hlt F3
        go_wp2_with fail
        (with_reducible refine F3'.mono ?_)
        rintro e w6 ⟨v6, rfl, o6, k6⟩
        have o6b := o6.base (B' := w.heap.size) kw.size
        have kw6 := below_more kw k6 (Nat.le_refl _)
        clear F3' o6 kw k6
        go_wp2_with fail
        (with_reducible refine (F1 _).mono ?_)
        rintro e w7 ⟨v7, rfl, o7, k7⟩
        obtain ⟨A7, c7, rfl, g7⟩ := o7.good
        have o6' := o6b.below k7
        have kw7 := below_more kw6 k7 (Nat.le_refl _)
        rw [L1.out]
        clear o6b o7 k7 kw6 F1
        go_wp2_with (at_builtin; refine wpList_appendB rfl _ _ rfl w.heap.size v6 sb rfl o6' A7 n4 4 c7 rfl L1.out g7 (by rw [HSL.out, L1.out]; omega) kw7.size w kw7 ?_; intro v8 w8 o8 k8)
        rw [HSE.out] at o8
        go_ret
        exact ⟨v8, rfl, o8, k8⟩
end Go.Proofs.YtdmkkfpbgpijjaaGreat
