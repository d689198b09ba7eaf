/- LockShares. -/
import Derived.Test.YtnfodidfhnofkaaAf
import Derived.Test.YtnfodidfhnofkaaAx
import Derived.Deep.RegionHeld3
import Derived.StillTailTactics
import Derived.BigQuiet
namespace Go.Proofs.Ytnfodidfhnofkaa
open Go.RowKit Go.Deep Go.Maps Go.Lib

def K7 : KeyT := ⟨7, 0, 0, 0⟩
theorem KV_K7 : KV K7 = .agg #[.int .u8 7, .int .u8 0, .int .u8 0, .int .u8 0] := rfl
theorem KeyC.moves {w w' : World} {F : Nat → Prop} {kb : Nat} {k : KeyT} (h : KeyC w kb k) (hm : Moves F w w') (hno : ¬ F kb) : KeyC w' kb k := (hm.block kb h.lt hno).trans h
theorem ints_in {w : World} {B : Nat} {A : Option Addr} {l : List Int} (h : Ints .i64 B w A l) {i : Nat} {t : Int} (ht : l[i]? = some t) : ∃ b off, A = some ⟨b, off, none⟩ ∧ b < B ∧ w.cell? ⟨b, off + i, none⟩ = some (.int .i64 t) := by
  have hi := (List.getElem?_eq_some_iff.1 ht).1
  obtain ⟨b, off, e, hb, hc⟩ := h (by omega)
  refine ⟨b, off, e, hb, ?_⟩
  have := hc i hi
  rw [ht] at this
  exact this
/-- A table under way, beside the cells of a key. -/
structure TY (w0 w : World) (F : Nat → Prop) (tb m : Nat) (st : PS) (kb : Nat) (k : KeyT) : Prop where
  t : Tb w0 w F tb m st
  no : ¬ F kb
  key : KeyC w kb k
theorem TY.still {w0 w w' : World} {F : Nat → Prop} {tb m kb : Nat} {st : PS} {k : KeyT} (h : TY w0 w F tb m st kb k) (hb : Below w.heap.size w w') : TY w0 w' F tb m st kb k := ⟨h.t.still hb, h.no, h.key.still hb⟩
theorem TY.step {w0 w w' : World} {F : Nat → Prop} {tb m m' kb : Nat} {st st' : PS} {k : KeyT} (h : TY w0 w F tb m st kb k) (h1 : LockAt w' (grow F w w') tb m' st') (h2 : Moves F w w') : TY w0 w' (grow F w w') tb m' st' kb k :=
  ⟨h.t.step h1 h2, fun e => e.elim h.no (fun e => by have := h.key.lt; omega), h.key.moves h2 h.no⟩
/-- The same, of blocks that nobody names. -/
def TZ (w0 : World) (tb m : Nat) (st : PS) (kb : Nat) (k : KeyT) (w : World) : Prop := ∃ F, TY w0 w F tb m st kb k
theorem TZ.still {w0 w w' : World} {tb m kb : Nat} {st : PS} {k : KeyT} (h : TZ w0 tb m st kb k w) (hb : Below w.heap.size w w') : TZ w0 tb m st kb k w' := by obtain ⟨F, h⟩ := h; exact ⟨F, h.still hb⟩
theorem TZ.below {w0 w : World} {tb m kb : Nat} {st : PS} {k : KeyT} (h : TZ w0 tb m st kb k w) : Below w0.heap.size w0 w := by obtain ⟨F, h⟩ := h; exact h.t.below
theorem TZ.key {w0 w : World} {tb m kb : Nat} {st : PS} {k : KeyT} (h : TZ w0 tb m st kb k w) : KeyC w kb k := by obtain ⟨F, h⟩ := h; exact h.key
theorem TZ.mono {w0 w : World} {tb m m' kb : Nat} {st : PS} {k : KeyT} (h : TZ w0 tb m st kb k w) (hm : m ≤ m') : TZ w0 tb m' st kb k w := by obtain ⟨F, h⟩ := h; exact ⟨F, h.t.mono hm, h.no, h.key⟩
theorem TZ.ask {w0 w : World} {tb m kb : Nat} {st st' : PS} {k : KeyT} (h : TZ w0 tb m st kb k w) (hm : m ≤ 1000) {tx now r : Int} {kx : KeyT} {ex : Bool} (hs : askS st tx kx ex now = (st', r)) :
    Calls Try.prog 13 #[.pointer (some ⟨tb, 0, none⟩), .int .i64 tx, KV kx, .bool ex, .int .i64 now] w fun e w' => e = .returned (.int .i64 r) ∧ TZ w0 tb (m + 2) st' kb k w' := by
  obtain ⟨F, h⟩ := h
  refine (ask_any F tb m st st' tx now r kx ex w h.t.lock hm hs).mono ?_
  rintro e w' ⟨rfl, h1, h2⟩
  exact ⟨rfl, _, h.step h1 h2⟩
theorem TZ.free {w0 w : World} {tb m kb : Nat} {st : PS} {k : KeyT} (h : TZ w0 tb m st kb k w) (hm : m ≤ 1000) {tx : Int} (ht : okI tx) :
    Calls Try.prog 15 #[.pointer (some ⟨tb, 0, none⟩), .int .i64 tx] w fun e w' => e = .returned (.tuple #[]) ∧ ∃ st', FreeSays st st' tx ∧ TZ w0 tb m st' kb k w' := by
  obtain ⟨F, h⟩ := h
  refine (free_any F tb m st tx w h.t.lock hm ht).mono ?_
  rintro e w' ⟨rfl, st', hf, h1, h2⟩
  exact ⟨rfl, st', hf, _, h.step h1 h2⟩
theorem TZ.holds {w0 w : World} {tb m kb : Nat} {st : PS} {k : KeyT} (h : TZ w0 tb m st kb k w) {tx r : Int} {kx : KeyT} (hr : howH (st.row kx).hs tx = r) :
    Calls Try.prog 21 #[.pointer (some ⟨tb, 0, none⟩), .int .i64 tx, KV kx] w fun e w' => e = .returned (.int .i64 r) ∧ TZ w0 tb m st kb k w' := by
  obtain ⟨F, h⟩ := h
  refine (holds_any F tb m st tx r kx w h.t.lock hr).mono ?_
  rintro e w' ⟨rfl, hb⟩
  exact ⟨rfl, _, h.still hb⟩
set_option maxRecDepth 100000 in
set_option maxHeartbeats 4000000 in
theorem lockShares_any (A : Option Addr) (cap : Nat) (zs : List Int) (tx : Int) (w : World) (hi : Ints .i64 w.heap.size w A zs) (hm : zs.length ≤ maxLen) :
    Calls Try.prog 9 #[.slice A zs.length cap, .int .i64 tx] w fun e w' => e = .returned (.bool true) ∧ Below w.heap.size w w' := by
  have hbig : zs.length ≤ 9223372036854775807 := by unfold maxLen at hm; omega
  have HI := Lib.hid hi
  clear hi hm
  obtain ⟨n, hn⟩ : ∃ n, zs.length = n := ⟨_, rfl⟩
  have HN := Lib.hid hn
  rw [hn] at hbig ⊢
  clear hn
  go_enter Try.func9, Try.ntmps9
  go_wp2_with fail
  refine (alive_any w).mono ?_
  rintro e w1 ⟨rfl, hb1⟩
  have HB1 := Lib.hid hb1
  clear hb1
  by_cases h60 : 60 < n
  · have h60z : (60 : Int) < (n : Int) := by omega
    go_wp2_with fail
    go_ret
    exact ⟨rfl, HB1.out⟩
  · have h60z : decide ((60 : Int) < (n : Int)) = false := decide_eq_false (by omega)
    by_cases ht1 : tx < 1
    · have d1 : decide (tx < 1) = true := decide_eq_true ht1
      go_wp2_with fail
      go_ret
      exact ⟨rfl, HB1.out⟩
    · have d1 : decide (tx < 1) = false := decide_eq_false ht1
      by_cases ht2 : 1048576 < tx
      · have d2 : decide (1048576 < tx) = true := decide_eq_true ht2
        go_wp2_with fail
        go_ret
        exact ⟨rfl, HB1.out⟩
      · have d2 : decide (1048576 < tx) = false := decide_eq_false ht2
        have hN := new_ok 5 w1 (by decide) (by decide)
        go_wp2_with fail
        refine hN.mono ?_
        rintro e w2 ⟨tb, rfl, hl2, hb2⟩
        have hbV : Below w2.heap.size w2 (w2.alloc (.cells #[.int .u8 7, .int .u8 0, .int .u8 0, .int .u8 0] 24)) := (Below.refl _ w2).alloc (Nat.le_refl _) _
        have HZV := Lib.hid (show TZ w1 tb 0 (newPS 5) w2.heap.size K7 (w2.alloc (.cells #[.int .u8 7, .int .u8 0, .int .u8 0, .int .u8 0] 24)) from
          ⟨fun b => w1.heap.size ≤ b ∧ b < w2.heap.size, (⟨hl2, fun b e => e.1, hb2⟩ : Tb w1 w2 _ tb 0 (newPS 5)).still hbV, fun e => by omega, heap_alloc_new w2 _⟩)
        clear hN hl2 hb2 hbV
        go_wp2_with fail
        generalize (w2.alloc (.cells #[.int .u8 7, .int .u8 0, .int .u8 0, .int .u8 0] 24)) = V at *
        generalize w2.heap.size = kb at *
        go_loopg [8, 9] n (fun gg s8 s9 wr => ∃ (kk : Nat) (st : PS), kk ≤ n ∧ n - kk ≤ gg ∧ s8 = .int .i64 (othersN (zs.take kk) tx : Nat) ∧ s9 = .int .i64 kk ∧ Hid (Shd st K7 (zs.take kk)) ∧ Hid (TZ w1 tb (2 * kk) st kb K7 wr))
        case atStart => exact ⟨0, _, Nat.zero_le _, by omega, by rw [List.take_zero]; rfl, rfl, Lib.hid (by rw [List.take_zero]; exact Shd.start 5 K7), HZV⟩
        case round =>
          obtain ⟨kk, st, hkk, hgg, rfl, rfl, HS, HZ⟩ := hrel
          by_cases hlt : kk < n
          · have hltz : (kk : Int) < (n : Int) := by omega
            obtain ⟨x, hx⟩ : ∃ x, zs[kk]? = some x := ⟨_, List.getElem?_eq_getElem (by have := HN.out; omega)⟩
            have hbr := HB1.out.trans (HZ.out.below.mono HB1.out.size)
            obtain ⟨b, off, rfl, hbl, c0⟩ := ints_in (HI.out.below hbr (Nat.le_refl _)) hx
            have hblr : b < wr.heap.size := Nat.lt_of_lt_of_le hbl hbr.size
            have HTK := Lib.hid (show zs.take (kk + 1) = zs.take kk ++ [x] by rw [List.take_add_one, hx]; rfl)
            have hol := othersN_len (zs.take kk) tx
            rw [List.length_take] at hol
            have hol2 : othersN (zs.take kk) tx ≤ 60 := by omega
            have HX := Lib.hid hx
            generalize hot : othersN (zs.take kk) tx = ot at *
            have HOT := Lib.hid hot
            clear hx hol hot
            by_cases hx1 : x < 1
            · have d3 : decide (x < 1) = true := decide_eq_true hx1
              go_wp2_with fail
              go_ret
              exact ⟨rfl, hbr⟩
            · have d3 : decide (x < 1) = false := decide_eq_false hx1
              by_cases hx2 : 1048576 < x
              · have d4 : decide (1048576 < x) = true := decide_eq_true hx2
                go_wp2_with fail
                go_ret
                exact ⟨rfl, hbr⟩
              · have d4 : decide (1048576 < x) = false := decide_eq_false hx2
                obtain ⟨st', hs, hS', hh⟩ := HS.out.ask (t := x) (by omega) (by omega)
                have HS' := Lib.hid hS'
                have hbd : Below wr.heap.size wr wr.drew := below_drewN (Below.refl _ wr) 1
                have hA := (HZ.out.still hbd).ask (by omega) hs
                have hH := fun W (h : TZ w1 tb (2 * kk + 2) st' kb K7 W) => h.holds hh
                rw [KV_K7] at hA
                simp only [KV_K7] at hH
                have HCell := Lib.hid (show ∀ W st m, TZ w1 tb m st kb K7 W → (W.cell? ⟨b, off + kk, none⟩ = some (.int .i64 x) ∧ W.cell? ⟨kb, 0, none⟩ = some (.int .u8 7) ∧ W.cell? ⟨kb, 1, none⟩ = some (.int .u8 0) ∧ W.cell? ⟨kb, 2, none⟩ = some (.int .u8 0) ∧ W.cell? ⟨kb, 3, none⟩ = some (.int .u8 0)) from fun W st m h => by
                  obtain ⟨b', off', e, _, q⟩ := ints_in (HI.out.below (HB1.out.trans (h.below.mono HB1.out.size)) (Nat.le_refl _)) HX.out
                  simp only [Option.some.injEq, Addr.mk.injEq] at e
                  obtain ⟨rfl, rfl, _⟩ := e
                  exact ⟨q, h.key.cells⟩)
                have hd0 := HCell.out _ _ _ (HZ.out.still hbd)
                obtain ⟨_, k0, k1, k2, k3⟩ := HCell.out _ _ _ HZ.out
                have hkl := HZ.out.key.lt
                clear hs hS' hh hbd
                go_wp2_with fail
                go_region_held3 (fun w' => (w'.cell? ⟨b, off + kk, none⟩ = some (.int .i64 x) ∧ w'.cell? ⟨kb, 0, none⟩ = some (.int .u8 7) ∧ w'.cell? ⟨kb, 1, none⟩ = some (.int .u8 0) ∧ w'.cell? ⟨kb, 2, none⟩ = some (.int .u8 0) ∧ w'.cell? ⟨kb, 3, none⟩ = some (.int .u8 0)))
                  (first | exact hd0 | exact HCell.out _ _ _ (by assumption))
                  (first
                    | ((rw [if_pos (by rfl)]; go_simp); go_at_call 21; (with_reducible refine (hH _ (by assumption)).mono ?_); rintro e w' ⟨rfl, hz5⟩)
                    | (go_at_call 21; (with_reducible refine (hH _ (by assumption)).mono ?_); rintro e w' ⟨rfl, hz5⟩)
                    | (go_at_call 13; (with_reducible refine hA.mono ?_); rintro e w' ⟨rfl, hz5⟩))
                obtain ⟨q0, -⟩ := HCell.out _ _ _ hz5
                have hb5 := HB1.out.trans (hz5.below.mono HB1.out.size)
                have hbl5 := Nat.lt_of_lt_of_le hbl hb5.size
                have HZ5 := Lib.hid (hz5.mono (show 2 * kk + 2 ≤ 2 * (kk + 1) by omega))
                clear hz5 hA hH hd0
                by_cases hxe : x = tx
                · have hne : (x != tx) = false := by simp [hxe]
                  have HE := Lib.hid hxe
                  clear hxe
                  go_wp2_with fail
                  go_roundg (n - (kk + 1))
                  case measure => omega
                  case rel => exact ⟨kk + 1, st', by omega, by omega, by rw [HTK.out, othersN_snoc, HOT.out, if_pos HE.out]; rfl, by go_num, Lib.hid (by rw [HTK.out]; exact HS'.out), HZ5⟩
                · have hne : (x != tx) = true := by simpa using hxe
                  have HE := Lib.hid hxe
                  clear hxe
                  go_wp2_with fail
                  go_roundg (n - (kk + 1))
                  case measure => omega
                  case rel => exact ⟨kk + 1, st', by omega, by omega, by rw [HTK.out, othersN_snoc, HOT.out, if_neg HE.out]; go_num, by go_num, Lib.hid (by rw [HTK.out]; exact HS'.out), HZ5⟩
          · obtain rfl : kk = n := by omega
            have e : zs.take kk = zs := by rw [← HN.out]; exact List.take_length
            rw [e] at HS ⊢
            clear e
            obtain ⟨k0, k1, k2, k3⟩ := HZ.out.key.cells
            have hkl := HZ.out.key.lt
            by_cases ho : 0 < othersN zs tx
            · obtain ⟨st', hs, hh⟩ := HS.out.rise (tx := tx) (by omega) (by omega) ho
              have hA := HZ.out.ask (by omega) hs
              rw [KV_K7] at hA
              obtain ⟨q, hq⟩ : ∃ q, howH (st'.row K7).hs tx = q := ⟨_, rfl⟩
              rw [hq] at hh
              have HQ := Lib.hid hq
              generalize othersN zs tx = ot at *
              have hoz : (0 : Int) < (ot : Int) := by omega
              clear hs hq
              go_wp2_with fail
              refine hA.mono ?_
              rintro e w5 ⟨rfl, hz5⟩
              have hH := hz5.holds HQ.out
              rw [KV_K7] at hH
              clear k0 k1 k2 k3 hkl
              obtain ⟨k0, k1, k2, k3⟩ := hz5.key.cells
              have hkl := hz5.key.lt
              clear hA hz5
              go_wp2_with fail
              refine hH.mono ?_
              rintro e w6 ⟨rfl, hz6⟩
              have HB6 := Lib.hid (HB1.out.trans (hz6.below.mono HB1.out.size))
              clear hH hz6 k0 k1 k2 k3 hkl
              go_wp2_with fail
              go_ret
              exact ⟨rfl, HB6.out⟩
            · have ho0 : othersN zs tx = 0 := by omega
              obtain ⟨st', hs, hh⟩ := HS.out.alone (tx := tx) (by omega) (by omega) ho0
              have hA := HZ.out.ask (by omega) hs
              rw [KV_K7] at hA
              rw [ho0]
              have HH := Lib.hid hh
              clear hs ho ho0 hh
              go_wp2_with fail
              refine hA.mono ?_
              rintro e w5 ⟨rfl, hz5⟩
              have hH := hz5.holds HH.out
              rw [KV_K7] at hH
              clear k0 k1 k2 k3 hkl
              obtain ⟨k0, k1, k2, k3⟩ := hz5.key.cells
              have hkl := hz5.key.lt
              clear hA hz5
              go_wp2_with fail
              refine hH.mono ?_
              rintro e w6 ⟨rfl, hz6⟩
              have HB6 := Lib.hid (HB1.out.trans (hz6.below.mono HB1.out.size))
              clear hH hz6 k0 k1 k2 k3 hkl
              go_wp2_with fail
              go_ret
              exact ⟨rfl, HB6.out⟩
theorem lockShares_len (A : Option Addr) (len cap : Nat) (zs : List Int) (tx : Int) (w : World) (hl : zs.length = len) (hi : Ints .i64 w.heap.size w A zs) (hm : len ≤ maxLen) :
    Calls Try.prog 9 #[.slice A len cap, .int .i64 tx] w fun e w' => e = .returned (.bool true) ∧ Below w.heap.size w w' := by
  subst hl
  exact lockShares_any A cap zs tx w hi hm
end Go.Proofs.Ytnfodidfhnofkaa
