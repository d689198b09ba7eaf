/- The document's own answers for layer 1's calls on lists: copies, bytes, words of bytes. -/
import Derived.Test.YtafdaeenjjokiaaDoorLe
import Derived.Test.YtafdaeenjjokiaaDoorRb
import Derived.Laws.AppendOwnNone
import Derived.Maps.AppendAt
namespace Go.Proofs.YtafdaeenjjokiaaDoor
open Go.RowKit Go.Deep

/-- A call that answers a new list of numbers. -/
def GivesInts (k : IntKind) (zs : List Int) (w : World) (e : Ending) (w' : World) : Prop := ∃ A c, e = .returned (.slice A zs.length c) ∧ Ints k w'.heap.size w' A zs ∧ Below w.heap.size w w'

theorem ints_own {k : IntKind} {t : TypeId} {base n : Nat} {w : World} {v : Value} {zs : List Int} (h : w.ownsRow base t 1 v n (zs.map (Value.int k))) : ∃ A c, v = .slice A zs.length c ∧ Ints k w.heap.size w A zs := by
  have hl : zs.length = n := by have := h.1; simpa using this
  rcases h.2 with ⟨rfl, hn⟩ | ⟨g, cap, cur, rfl, _, hh, hnc, _, hsz, htk⟩
  · have : zs = [] := List.eq_nil_of_length_eq_zero (by omega)
    subst this
    exact ⟨none, 0, rfl, Ints.nil⟩
  · subst hl
    refine ⟨some ⟨g, 0, none⟩, cap, rfl, fun _ => ⟨g, 0, rfl, (Array.getElem?_eq_some_iff.1 hh).1, fun j hj => ?_⟩⟩
    have hc := h.cells (g := g) rfl j (.int k (zs[j]?.getD 0)) (by simp [hj])
    rw [Go.WideShapes.add_plain] at hc
    exact hc

set_option maxHeartbeats 1000000 in
theorem copyInts_any (A : Option Addr) (zs : List Int) (c l : Nat) (hll : zs.length = l) (hc : A = none → c = 0) (hl : zs.length ≤ 100) (w : World) (h : Ints .i64 w.heap.size w A zs) :
    Calls Tryd.prog 26 #[.slice A l c] w (GivesInts .i64 zs w) := by
  obtain ⟨i0, hi, hz0, hz1, hz2⟩ := info_parts info_int
  have hm : l ≤ 100 := by omega
  have hlit : (w.alloc (.cells #[] 3)).ownsRow w.heap.size 3 1 (.slice (some ⟨w.heap.size, 0, none⟩) 0 0) 0 [] := World.ownsRow_lit w #[] 0 (Nat.le_refl _) (by simp) (by simp)
  cases A with
  | none =>
    have hz : zs = [] := by
      rcases Nat.eq_zero_or_pos zs.length with h0 | h0
      · exact List.eq_nil_of_length_eq_zero h0
      · obtain ⟨b, off, e, _⟩ := h h0; cases e
    subst hz
    obtain rfl : l = 0 := by simpa using hll.symm
    obtain rfl := hc rfl
    clear hll
    go_enter Tryd.func26, Tryd.ntmps26
    go_wp2_with (at_builtin; refine wpList_append_own_none rfl _ _ 30 rfl w.heap.size 3 i0 1 Tryd.underlying30 hi _ 0 [] rfl hlit rfl ?_)
    go_ret
    exact ⟨_, _, rfl, Ints.nil, (Below.refl _ _).alloc (Nat.le_refl _) _⟩
  | some ad =>
    have hnews : ∀ (j : Nat) (u : Value), (zs.map (Value.int .i64))[j]? = some u → (w.alloc (.cells #[] 3)).cell? (ad.add j) = some u := by
      intro j u hu
      have hj : j < zs.length := by
        rcases Nat.lt_or_ge j zs.length with hlt | hge
        · exact hlt
        · rw [List.getElem?_eq_none (by simpa using hge)] at hu; cases hu
      obtain ⟨b, off, e, hb, hcell⟩ := h (by omega)
      obtain rfl : ad = ⟨b, off, none⟩ := by injection e
      rw [Go.WideShapes.add_plain, World.cell?_alloc_lt w _ _ hb, hcell j hj]
      simpa [hj] using hu
    have h1 : ∀ u ∈ zs.map (Value.int .i64), u.oneCell' = true := by
      intro u hu
      simp only [List.mem_map] at hu
      obtain ⟨z, _, rfl⟩ := hu
      rfl
    go_enter Tryd.func26, Tryd.ntmps26
    go_wp2_with (at_builtin; refine wpList_append_own _ rfl _ _ 30 rfl w.heap.size 3 i0 (.int .i64 0) 1 8 Tryd.underlying30 hi hz0 hz1 hz2 rfl (by decide) _ 0 [] rfl hlit ad l c (zs.map (Value.int .i64)) rfl (by simp [hll]) hnews h1 (by simp only [maxLen]; omega) (by omega) (by simp) ?_; intro v' w1 hown hgrow _)
    go_ret
    rw [List.nil_append] at hown
    obtain ⟨A', c', rfl, hi'⟩ := ints_own hown
    refine ⟨A', c', rfl, hi', ?_⟩
    exact ((Below.refl w.heap.size w).alloc (Nat.le_refl _) _).grown hgrow (by simp) (fun k e => by cases e; exact Nat.le_refl _)

/-! ### Bytes -/
set_option maxHeartbeats 400000 in
theorem refBytes_out (u : Nat) (n : Int) (h : n < 0 ∨ (0 ≤ n ∧ 8 < n)) (w : World) :
    Calls Tryd.prog 36 #[.int .u64 u, .int .i64 n] w fun e w' => e = .returned (.slice none 0 0) ∧ w = w' := by
  rcases h with h | ⟨h1, h⟩
  all_goals
    go_enter Tryd.func36, Tryd.ntmps36
    go_wp2
    go_ret
    exact ⟨rfl, rfl⟩

theorem bytesL_succ (u j : Nat) : bytesL u (j + 1) = bytesL u j ++ [((byteAt u j : Nat) : Int)] := by simp [bytesL, List.range_succ]
theorem rest_byte (u j : Nat) : u / 2 ^ (8 * j) / 256 = u / 2 ^ (8 * (j + 1)) := by
  rw [Nat.div_div_eq_div_mul, show (256 : Nat) = 2 ^ 8 from rfl, ← Nat.pow_add, show 8 * j + 8 = 8 * (j + 1) by omega]
theorem byte_wrap (r : Nat) : IntKind.u8.wrap ((r : Int) % 256) = ((r % 256 : Nat) : Int) := by
  simp [IntKind.wrap, IntKind.signed, IntKind.bits]

def RefB (u n : Nat) (w : World) (e : Ending) (w' : World) : Prop :=
  (u / 2 ^ (8 * n) = 0 ∧ GivesInts .u8 (bytesL u n) w e w') ∨ (u / 2 ^ (8 * n) ≠ 0 ∧ e = .returned (.slice none 0 0) ∧ Below w.heap.size w w')

set_option maxHeartbeats 1000000 in
theorem refBytes_in (u n : Nat) (hu : u < 18446744073709551616) (hn : n ≤ 8) (w : World) :
    Calls Tryd.prog 36 #[.int .u64 u, .int .i64 n] w (RefB u n w) := by
  obtain ⟨i0, hi, hz0, hz1, hz2⟩ := info_parts info_u8
  have hlit : (w.alloc (.cells #[] 5)).ownsRow w.heap.size 5 1 (.slice (some ⟨w.heap.size, 0, none⟩) 0 0) 0 [] := World.ownsRow_lit w #[] 0 (Nat.le_refl _) (by simp) (by simp)
  go_enter Tryd.func36, Tryd.ntmps36
  go_wp2
  go_loopw [0, 5, 6] (fun r v i wr => ∃ j : Nat, j ≤ n ∧ i = .int .i64 j ∧ r = .int .u64 ((u / 2 ^ (8 * j) : Nat) : Int) ∧ wr.ownsRow w.heap.size 5 1 v j ((bytesL u j).map (Value.int .u8)) ∧ Below w.heap.size w wr) (fun _ _ i _ => n - (intOf i).toNat)
  case atStart => exact ⟨0, Nat.zero_le _, rfl, by simp, hlit, (Below.refl _ _).alloc (Nat.le_refl _) _⟩
  case round =>
    obtain ⟨j, hj, rfl, rfl, hown, hbl⟩ := hrel
    have hrl : u / 2 ^ (8 * j) < 18446744073709551616 := Nat.lt_of_le_of_lt (Nat.div_le_self _ _) hu
    by_cases hlt : j < n
    · have hs := Lib.hid (rest_byte u j)
      have hb := Lib.hid (show byteAt u j = u / 2 ^ (8 * j) % 256 from rfl)
      have hL := Lib.hid (bytesL_succ u j)
      generalize u / 2 ^ (8 * j) = r at *
      have hbw := byte_wrap r
      have hq : (r : Int) / 256 = ((r / 256 : Nat) : Int) := by simp
      generalize r / 256 = q at *
      generalize r % 256 = y at *
      go_wp2_with (at_builtin; refine wpList_append_own _ rfl _ _ 31 rfl w.heap.size 5 i0 (.int .u8 0) 1 1 Tryd.underlying31 hi hz0 hz1 hz2 rfl (by decide) _ j _ rfl (hown.alloc _) ⟨wr.heap.size, 0, none⟩ 1 1 [.int .u8 (y : Int)] rfl rfl (cell_one_new _ _ _) (by simp [Value.oneCell']) (by simp only [maxLen]; omega) (by omega) (by have := hbl.size; simp; omega) ?_; intro v' w1 hown' hgrow _)
      have hown2 : w1.ownsRow w.heap.size 5 1 v' (j + 1) ((bytesL u (j + 1)).map (Value.int .u8)) := by
        rw [hL.out, List.map_append, hb.out]; exact hown'
      have hbl2 : Below w.heap.size w w1 := (hbl.alloc hbl.size _).grown hgrow (by have := hbl.size; simp; omega) (fun k e => (hown.lt k e).1)
      go_roundw
      case rel => exact ⟨j + 1, by omega, by go_num, by rw [← hs.out], hown2, hbl2⟩
      case measure => simp [intOf]; omega
    · obtain rfl : j = n := by omega
      by_cases hz : u / 2 ^ (8 * j) = 0
      · have hz2 : (((u / 2 ^ (8 * j) : Nat) : Int) != 0) = false := by rw [hz]; rfl
        have HZ := Lib.hid hz
        clear hz
        generalize hzz : u / 2 ^ (8 * j) = z at *
        have HZZ := Lib.hid hzz
        clear hzz
        go_wp2
        go_ret
        obtain ⟨A', c', rfl, hi'⟩ := ints_own hown
        exact .inl ⟨HZZ.out.trans HZ.out, A', c', rfl, hi', hbl⟩
      · have hz2 : (((u / 2 ^ (8 * j) : Nat) : Int) != 0) = true := by simp only [bne_iff_ne]; omega
        have HZ := Lib.hid hz
        clear hz
        generalize hzz : u / 2 ^ (8 * j) = z at *
        have HZZ := Lib.hid hzz
        clear hzz
        go_wp2
        go_ret
        exact .inr ⟨by rw [HZZ.out]; exact HZ.out, rfl, hbl⟩

/-! ### From -/
set_option maxHeartbeats 400000 in
theorem refFrom_no (A : Option Addr) (c l : Nat) (hl : 8 < l) (_hl2 : l ≤ 9223372036854775807) (w : World) :
    Calls Tryd.prog 32 #[.slice A l c] w fun e w' => e = .returned (.tuple #[.int .u64 0, .bool false]) ∧ w = w' := by
  go_enter Tryd.func32, Tryd.ntmps32
  go_wp2
  go_ret2
  exact ⟨rfl, rfl⟩
theorem from_step (r : Nat) (z : Int) (h0 : 0 ≤ z) (h1 : z < 256) (h2 : r * 256 + z.toNat < 18446744073709551616) : IntKind.u64.wrap (IntKind.u64.wrap ((r : Int) * 256) + z) = ((r * 256 + z.toNat : Nat) : Int) := by
  rw [IntKind.wrap_u64, IntKind.wrap_u64]; omega
theorem fromN_drop (zs : List Int) (m : Nat) (h : m < zs.length) : fromN (zs.drop m) = fromN (zs.drop (m + 1)) * 256 + (zs[m]?.getD 0).toNat := by
  rw [List.drop_eq_getElem_cons h, fromN_cons]
  simp [h]; omega
theorem fromN_small (zs : List Int) (hz : isBytes zs) (hl : zs.length ≤ 8) (m : Nat) : fromN (zs.drop m) < 18446744073709551616 := by
  have h := fromN_lt (zs.drop m) (fun y hy => hz y (List.mem_of_mem_drop hy))
  have : 256 ^ (zs.drop m).length ≤ 256 ^ 8 := Nat.pow_le_pow_right (by decide) (by rw [List.length_drop]; omega)
  omega

set_option maxHeartbeats 1000000 in
theorem refFrom_core (A : Option Addr) (zs : List Int) (c l q : Nat) (hll : zs.length = l) (hz : isBytes zs) (hl : l ≤ 8) (w : World) (h : Ints .u8 w.heap.size w A zs) (H : Hid (fromN zs = q)) :
    Calls Tryd.prog 32 #[.slice A l c] w fun e w' => e = .returned (.tuple #[.int .u64 (q : Int), .bool true]) ∧ w = w' := by
  have HL := Lib.hid hll
  clear hll
  go_enter Tryd.func32, Tryd.ntmps32
  go_wp2
  go_loop [4, 5] (fun r i => ∃ m : Nat, m ≤ l ∧ i = .int .i64 ((m : Int) - 1) ∧ r = .int .u64 ((fromN (zs.drop m) : Nat) : Int)) (fun _ i => (intOf i + 1).toNat)
  case atStart => exact ⟨l, Nat.le_refl _, rfl, by rw [← HL.out, List.drop_length]; rfl⟩
  case round =>
    obtain ⟨m, hm, hi, rfl⟩ := hrel
    cases m with
    | zero =>
      rw [show ((0 : Nat) : Int) - 1 = -1 by omega] at hi
      subst hi
      rw [List.drop_zero, H.out]
      go_wp2
      go_ret2
      exact ⟨rfl, rfl⟩
    | succ m =>
      rw [show ((m + 1 : Nat) : Int) - 1 = (m : Int) by omega] at hi
      subst hi
      obtain ⟨b, off, rfl, hb, hc⟩ := h (by have := HL.out; omega)
      have hck := hc m (by have := HL.out; omega)
      have hzz := isBytes_at zs hz m
      have hn := Lib.hid (fromN_drop zs m (by have := HL.out; omega))
      have hsm := fromN_small zs hz (by have := HL.out; omega) m
      rw [hn.out] at hsm
      clear hc
      generalize zs[m]?.getD 0 = z at *
      generalize fromN (zs.drop (m + 1)) = r at *
      have hw := from_step r z hzz.1 hzz.2 hsm
      have HM := Lib.hid hsm
      clear hsm
      obtain ⟨hz1, hz2⟩ := hzz
      generalize hqq : r * 256 + z.toNat = q' at *
      have hml : m < l := by omega
      clear hqq
      go_wp2
      go_round
      case rel => exact ⟨m, by omega, rfl, by rw [hn.out]⟩
      case measure => simp [intOf]
end Go.Proofs.YtafdaeenjjokiaaDoor
