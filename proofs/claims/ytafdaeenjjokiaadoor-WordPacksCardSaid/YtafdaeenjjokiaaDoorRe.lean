/- The document's own answer for layer 1's Unpack. -/
import Derived.Test.YtafdaeenjjokiaaDoorRd
namespace Go.Proofs.YtafdaeenjjokiaaDoor
open Go.RowKit Go.Deep

set_option maxHeartbeats 1000000 in
theorem refUnpack_bad (A : Option Addr) (ws : List Int) (c l u : Nat) (hll : ws.length = l) (hl : l ≤ 100) (ho : okW ws = false) (w : World) (h : Ints .i64 w.heap.size w A ws) :
    Calls Tryd.prog 30 #[.slice A l c, .int .u64 u] w fun e w' => e = .returned (.tuple #[.slice none 0 0, .bool false]) ∧ w = w' := by
  have H := Lib.hid (right_any A ws c l hll hl w h)
  rw [ho] at H
  clear ho hll
  go_enter Tryd.func30, Tryd.ntmps30
  go_wp2_with (go_at_call 46; refine H.out.mono ?_; clear H; rintro e w' ⟨rfl, rfl⟩)
  go_ret2
  exact ⟨rfl, rfl⟩

/-- What the first places of a list of numbers come to. -/
def fieldsL (ws : List Int) (u k : Nat) : List Int := (List.range k).map (fun j => ((fieldAt ws u j : Nat) : Int))
theorem fieldsL_succ (ws : List Int) (u k : Nat) : fieldsL ws u (k + 1) = fieldsL ws u k ++ [((fieldAt ws u k : Nat) : Int)] := by simp [fieldsL, List.range_succ]
theorem mod_next (r j : Nat) : r % 2 ^ (j + 1) = r % 2 ^ j + 2 ^ j * (r / 2 ^ j % 2) := by rw [Nat.pow_succ, Nat.mod_mul]
theorem half_next (r j : Nat) : r / 2 ^ j / 2 = r / 2 ^ (j + 1) := by rw [Nat.pow_succ, Nat.div_div_eq_div_mul]
def oneI (j : Nat) : Int := wrap64 ((2 ^ j : Nat) : Int)
theorem oneI_small (j : Nat) (h : j ≤ 62) : oneI j = ((2 ^ j : Nat) : Int) := by
  have : 2 ^ j ≤ 2 ^ 62 := Nat.pow_le_pow_right (by decide) h
  unfold oneI wrap64
  generalize 2 ^ j = p at *
  omega

theorem oneI_zero : oneI 0 = 1 := by rw [oneI_small 0 (by omega)]; rfl
theorem oneI_next (j : Nat) : oneI (j + 1) = wrap64 (((2 ^ j : Nat) : Int) * 2) := by
  unfold oneI; rw [Nat.pow_succ]; simp
theorem field_step (m p q : Nat) (hm : m < p) (hp : p ≤ 4611686018427387904) : wrap64 ((m : Int) + wrap64 ((p : Int) * ((q : Int) % 2))) = ((m + p * (q % 2) : Nat) : Int) := by
  have h : q % 2 = 0 ∨ q % 2 = 1 := by omega
  rcases h with h | h
  · have e : (q : Int) % 2 = 0 := by omega
    rw [h, e]; unfold wrap64; simp; omega
  · have e : (q : Int) % 2 = 1 := by omega
    rw [h, e]; unfold wrap64; simp; omega

def RefU (ws : List Int) (u : Nat) (w : World) (e : Ending) (w' : World) : Prop :=
  (u / 2 ^ offN ws ws.length = 0 ∧ ∃ A c, e = .returned (.tuple #[.slice A ws.length c, .bool true]) ∧ Ints .i64 w'.heap.size w' A (unpackL ws u) ∧ Below w.heap.size w w') ∨
  (u / 2 ^ offN ws ws.length ≠ 0 ∧ e = .returned (.tuple #[.slice none 0 0, .bool false]) ∧ Below w.heap.size w w')

set_option maxHeartbeats 2000000 in
theorem refUnpack_good (A : Option Addr) (ws : List Int) (c l u : Nat) (hu : u < 18446744073709551616) (hll : ws.length = l) (hl : l ≤ 100) (ho : okW ws = true) (w : World) (h : Ints .i64 w.heap.size w A ws) :
    Calls Tryd.prog 30 #[.slice A l c, .int .u64 u] w (RefU ws u w) := by
  obtain ⟨i0, hi, hz0, hz1, hz2⟩ := info_parts info_int
  have hlit : (w.alloc (.cells #[] 3)).ownsRow w.heap.size 3 1 (.slice (some ⟨w.heap.size, 0, none⟩) 0 0) 0 [] := World.ownsRow_lit w #[] 0 (Nat.le_refl _) (by simp) (by simp)
  have H := Lib.hid (right_any A ws c l hll hl w h)
  rw [ho] at H
  have HO := Lib.hid ho
  have HL := Lib.hid hll
  clear ho hll
  go_enter Tryd.func30, Tryd.ntmps30
  go_wp2_with (go_at_call 46; refine H.out.mono ?_; clear H; rintro e w' ⟨rfl, rfl⟩)
  go_loopw [1, 6, 7] (fun r v i wr => ∃ k : Nat, k ≤ l ∧ i = .int .i64 k ∧ r = .int .u64 ((u / 2 ^ offN ws k : Nat) : Int) ∧ wr.ownsRow w.heap.size 3 1 v k ((fieldsL ws u k).map (Value.int .i64)) ∧ Below w.heap.size w wr) (fun _ _ i _ => l - (intOf i).toNat)
  case atStart => exact ⟨0, Nat.zero_le _, rfl, by simp [offN, sumI], hlit, (Below.refl _ _).alloc (Nat.le_refl _) _⟩
  case round =>
    obtain ⟨k, hk, rfl, rfl, hown, hbl⟩ := hrel
    by_cases hlt : k < l
    · have hlt1 : k < ws.length := by have := HL.out; omega
      obtain ⟨b, off, rfl, hb, hc⟩ := h (by omega)
      have hck : wr.cell? ⟨b, off + k, none⟩ = some (.int .i64 (ws[k]?.getD 0)) := (hbl.cell (p := ⟨b, off + k, none⟩) hb).trans (hc k hlt1)
      obtain ⟨hx1, hx2⟩ := okW_at ws HO.out k hlt1
      have hfl := Lib.hid (fieldsL_succ ws u k)
      have hfd := Lib.hid (fieldAt_eq ws u k)
      have hrs := Lib.hid (rest_succ ws u HO.out k hlt1)
      have hrl : u / 2 ^ offN ws k < 18446744073709551616 := Nat.lt_of_le_of_lt (Nat.div_le_self _ _) hu
      clear hc hlt1
      generalize ws[k]?.getD 0 = x at *
      generalize u / 2 ^ offN ws k = r at *
      go_wp2
      go_loop [1, 8, 9, 10] (fun q n one i => ∃ j : Nat, (j : Int) ≤ x ∧ i = .int .i64 j ∧ q = .int .u64 ((r / 2 ^ j : Nat) : Int) ∧ n = .int .i64 ((r % 2 ^ j : Nat) : Int) ∧ one = .int .i64 (oneI j)) (fun _ _ _ i => x.toNat - (intOf i).toNat)
      case atStart => exact ⟨0, by omega, rfl, by simp, by simp [Nat.mod_one], by rw [oneI_zero]⟩
      case round =>
        obtain ⟨j, hj, rfl, rfl, rfl, rfl⟩ := hrel
        by_cases hjx : (j : Int) < x
        · rw [oneI_small j (by omega)]
          have hn1 := Lib.hid (mod_next r j)
          have hn2 := Lib.hid (half_next r j)
          have hp : 2 ^ j ≤ 4611686018427387904 := pow_le j 62 (by omega)
          have hm := Nat.mod_lt r (Nat.two_pow_pos j)
          have hql : r / 2 ^ j < 18446744073709551616 := Nat.lt_of_le_of_lt (Nat.div_le_self _ _) hrl
          have hn3 := Lib.hid (oneI_next j)
          generalize r / 2 ^ j = q at *
          generalize r % 2 ^ j = m at *
          generalize 2 ^ j = p at *
          have hfs := Lib.hid (field_step m p q hm hp)
          go_wp2
          go_round
          case rel => exact ⟨j + 1, by omega, by go_num, by rw [← hn2.out]; go_num, by rw [hn1.out, ← hfs.out], by rw [hn3.out]⟩
          case measure => simp [intOf]; omega
        · have hjj : j = x.toNat := by omega
          rw [show 2 ^ j = 2 ^ x.toNat by rw [hjj]]
          rw [hrs.out]
          have hfd2 : r % 2 ^ x.toNat = fieldAt ws u k := hfd.out.symm
          rw [hfd2]
          clear hfd2 hjj
          generalize fieldAt ws u k = f at *
          generalize hr' : u / 2 ^ offN ws (k + 1) = r' at *
          have HR := Lib.hid hr'
          clear hr'
          generalize oneI j = o1 at *
          go_wp2_with (at_builtin; refine wpList_append_own _ rfl _ _ 30 rfl w.heap.size 3 i0 (.int .i64 0) 1 8 Tryd.underlying30 hi hz0 hz1 hz2 rfl (by decide) _ k _ rfl (hown.alloc _) ⟨wr.heap.size, 0, none⟩ 1 1 [.int .i64 (f : Int)] rfl rfl (cell_one_new _ _ _) (by simp [Value.oneCell']) (by simp only [maxLen]; omega) (by omega) (by have := hbl.size; simp; omega) ?_; intro v' w1 hown' hgrow _)
          have hown2 : w1.ownsRow w.heap.size 3 1 v' (k + 1) ((fieldsL ws u (k + 1)).map (Value.int .i64)) := by
            rw [hfl.out, List.map_append]; exact hown'
          have hbl2 : Below w.heap.size w w1 := (hbl.alloc hbl.size _).grown hgrow (by have := hbl.size; simp; omega) (fun k e => (hown.lt k e).1)
          go_roundw
          case rel => exact ⟨k + 1, by omega, by go_num, by rw [HR.out], hown2, hbl2⟩
          case measure => simp [intOf]; omega
    · have hkl : k = ws.length := by have := HL.out; omega
      have hfe := Lib.hid (show fieldsL ws u k = unpackL ws u by rw [hkl]; rfl)
      have hoe := Lib.hid (show u / 2 ^ offN ws k = u / 2 ^ offN ws ws.length by rw [hkl])
      clear hkl
      rw [hfe.out] at hown
      by_cases hz : u / 2 ^ offN ws k = 0
      · have HZ := Lib.hid hz
        have hz2 : (((u / 2 ^ offN ws k : Nat) : Int) != 0) = false := by rw [hz]; rfl
        clear hz
        generalize u / 2 ^ offN ws k = z at *
        go_wp2
        go_ret2
        obtain ⟨A', c', rfl, hi'⟩ := ints_own hown
        rw [unpackL_length]
        exact .inl ⟨hoe.out.symm.trans HZ.out, A', c', rfl, hi', hbl⟩
      · have HZ := Lib.hid hz
        have hz2 : (((u / 2 ^ offN ws k : Nat) : Int) != 0) = true := by simp only [bne_iff_ne]; omega
        clear hz
        generalize u / 2 ^ offN ws k = z at *
        go_wp2
        go_ret2
        exact .inr ⟨by rw [← hoe.out]; exact HZ.out, rfl, hbl⟩
end Go.Proofs.YtafdaeenjjokiaaDoor
