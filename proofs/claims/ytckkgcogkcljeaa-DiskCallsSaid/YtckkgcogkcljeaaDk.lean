/- DiskImages: the walk. -/
import Derived.Test.YtckkgcogkcljeaaDj
namespace Go.Proofs.Ytckkgcogkcljeaa
open Go.RowKit Go.Deep Go.Maps

theorem owns_moves {F : Nat → Prop} {B : Nat} {w w' : World} {v : Value} {zs : List Int} (h : Owns B w v zs) (hm : Moves F w w') (hF : ∀ k, F k → k < B) : Owns B w' v zs :=
  row_kept h (fun k hk => hm.block k (World.ownsRow.lt h k hk).2 (fun e => by have := hF k e; have := (World.ownsRow.lt h k hk).1; omega))
theorem owns_lit (w : World) (B : Nat) (hB : B ≤ w.heap.size) : Owns B (w.alloc (.cells #[] 5)) (.slice (some ⟨w.heap.size, 0, none⟩) 0 0) [] := World.ownsRow_lit w #[] 0 hB (by simp) (by simp)

set_option maxRecDepth 100000 in
set_option maxHeartbeats 2000000 in
theorem images_body (n : Nat) (A : Option Addr) (cs : List CallD) (l c : Nat) (w : World) (h1 : 1 ≤ n) (h2 : n ≤ 40) (h : CallsAt w.heap.size w A cs) (hl : cs.length = l) (hm : l ≤ maxLen) (hgr : greatB cs = false) :
    Calls Try.prog 8 #[.int .i64 n, .slice A l c] w fun e w' => e = .returned (.bool true) ∧ Below w.heap.size w w' := by
  have HL := Lib.hid hl
  have HG := Lib.hid hgr
  have i1 : (1 : Int) ≤ (n : Int) := by omega
  have i2 : (n : Int) ≤ 40 := by omega
  clear hl hgr
  go_enter Try.func8, Try.ntmps8
  go_wp2_with fail
  refine (alive_any w).mono ?_
  rintro e w1 ⟨rfl, b1⟩
  have hc1 := h.below b1
  have s1 := b1.size
  go_wp2_with fail
  refine (great_any A cs l c w.heap.size false w1 hc1 HL.out hm HG.out).mono ?_
  rintro e w1' ⟨rfl, rfl⟩
  go_wp2_with fail
  have hc1' : CallsAt w1.heap.size w1 A cs := fun h0 => by
    obtain ⟨b, off, e, hB, hx⟩ := hc1 h0
    refine ⟨b, off, e, by omega, fun j x hj => ?_⟩
    obtain ⟨x1, x2, x3, x4, x5⟩ := hx j x hj
    exact ⟨x1, x2, x3, x4, x5.1.more s1, x5.2⟩
  refine (begin_any n A cs l c _ w1 h1 (by omega) hc1' HL.out HG.out rfl).mono ?_
  rintro e w2 ⟨F, db, rfl, hd2, hF, b2⟩
  have hlen := runS_len n cs
  have hcl := (great_no HG.out).1
  generalize runS n cs = st at *
  have hFl := hd2.lt
  have HD := Lib.hid hd2
  have bw2 : Below w.heap.size w w2 := b1.trans (b2.mono s1)
  have s2 := b2.size
  clear hd2 hc1 hc1' b2 b1
  have hlit := owns_lit w2 w2.heap.size (Nat.le_refl _)
  have HO := Lib.hid hlit
  clear hlit
  go_wp2
  go_loopw [6, 7] (fun o k wr => ∃ j : Nat, j ≤ n ∧ k = .int .i64 j ∧ Owns w2.heap.size wr o (((nows st).take j).flatten) ∧ Below w2.heap.size w2 wr) (fun _ k _ => n - (intOf k).toNat)
  case atStart => exact ⟨0, by omega, rfl, HO.out, (Below.refl _ _).alloc (Nat.le_refl _) _⟩
  case round =>
    obtain ⟨j, hj, rfl, ho, hb⟩ := hrel
    have hwf := HD.out.wf
    have hsz := hb.size
    by_cases hlt : j < n
    · have hlt' : (j : Int) < (n : Int) := by omega
      have hf := Lib.hid (flat_take (nows st) j (by rw [hwf.nows_len]; exact hlt))
      have hy := Lib.hid (hwf.now_len hlt)
      have hll : (((nows st).take j).flatten).length ≤ 9000 := by
        have := flat_len ((nows st).take j) (n := j) (by rw [List.length_take, hwf.nows_len]; omega) (fun z hz => hwf.nows_secs z (List.mem_of_mem_take hz))
        omega
      have hnow : nowAt st j = secAt (nows st) j := rfl
      have HO1 := Lib.hid ho
      clear ho
      go_wp2_with fail
      refine (read_at F db n j st _ wr (HD.out.below hb) hlt hnow).mono ?_
      rintro e w3 ⟨b3, rfl, hr3, hl3, hg3, hb3⟩
      have HR3 := Lib.hid hr3
      have hz3 := hb3.size
      have HN := Lib.hid hnow
      have hyy : (secAt (nows st) j).length = 32 := by rw [← HN.out]; exact hy.out
      have HYY := Lib.hid hyy
      generalize secAt (nows st) j = ys at *
      generalize ((nows st).take j).flatten = acc at *
      clear hr3 hnow hyy
      go_wp2_with (at_builtin; refine wpList_appendB rfl _ _ rfl w2.heap.size _ acc rfl (HO1.out.below hb3) _ ys 32 32 rfl HYY.out (good_of_range HR3.out (by omega) 32 (Nat.le_of_eq HYY.out)) (by rw [HYY.out]; omega) (by omega) w2 (hb.trans (hb3.mono hsz)) ?_; intro v' W3 o3 bb3)
      go_roundw
      case rel => exact ⟨j + 1, by omega, by go_num, by rw [hf.out]; exact o3, bb3⟩
      case measure => simp [intOf]; omega
    · obtain rfl : j = n := by omega
      have e : (nows st).take j = nows st := List.take_of_length_le (by rw [hwf.nows_len]; exact Nat.le_refl _)
      rw [e] at ho
      have HO1 := Lib.hid ho
      clear ho e
      go_wp2_with fail
      refine (flush_any F db j st wr (HD.out.below hb) (by omega)).mono ?_
      rintro e w4 ⟨rfl, hd4, hm4⟩
      have HO4 := Lib.hid (owns_moves HO1.out hm4 (fun k hk => hFl k hk))
      have HD4 := Lib.hid hd4
      have bw4 : Below w.heap.size w w4 := (bw2.trans (hb.mono (by omega))).trans (hm4.below (by omega) (fun k hk => by have := hF k hk; omega))
      have s4 := bw4.size
      clear hd4 hm4
      go_wp2_with fail
      refine (image_at _ db j (flushS st) (nows st).flatten w4 HD4.out (by omega) rfl).mono ?_
      rintro e w5 ⟨v5, rfl, o5, b5⟩
      obtain ⟨A5, c5, rfl, g5⟩ := o5.good
      have HO5 := Lib.hid (HO4.out.below b5)
      have HD5 := Lib.hid (HD4.out.below b5)
      have G5 := Lib.hid g5
      have bw5 : Below w.heap.size w w5 := bw4.trans (b5.mono (by omega))
      have hfl : (nows st).flatten.length = 32 * j := flat_len _ hwf.nows_len hwf.nows_secs
      obtain ⟨A6, c6, e6, g6⟩ := HO5.out.good
      have G6 := Lib.hid g6
      clear o5 b5 g5 g6
      generalize (nows st).flatten = zs at *
      have HFL := Lib.hid hfl
      clear hfl
      subst e6
      go_wp2_with fail
      refine (sameB A5 A6 zs zs c5 c6 _ _ true rfl rfl (by rw [HFL.out]; omega) (by rw [HFL.out]; omega) (by simp) w5 G5.out G6.out).mono ?_
      rintro e w6 ⟨rfl, b6⟩
      have HD6 := Lib.hid (HD5.out.below b6)
      have bw6 : Below w.heap.size w w6 := bw5.trans (b6.mono bw5.size)
      clear b6
      go_wp2_with fail
      refine (loose_at _ db j 0 (flushS st) w6 HD6.out rfl).mono ?_
      rintro e w7 ⟨rfl, rfl⟩
      go_wp2
      go_ret
      exact ⟨rfl, bw6⟩

theorem calls_more {B : Nat} {w : World} {A : Option Addr} {cs : List CallD} (h : CallsAt B w A cs) {B' : Nat} (hB' : B ≤ B') : CallsAt B' w A cs := fun h0 => by
  obtain ⟨b, off, e, hB, hx⟩ := h h0
  refine ⟨b, off, e, by omega, fun j x hj => ?_⟩
  obtain ⟨x1, x2, x3, x4, x5⟩ := hx j x hj
  exact ⟨x1, x2, x3, x4, x5.1.more hB', x5.2⟩
set_option maxRecDepth 100000 in
set_option maxHeartbeats 1000000 in
theorem images_any (n : Int) (A : Option Addr) (cs : List CallD) (l c : Nat) (w : World) (h : CallsAt w.heap.size w A cs) (hl : cs.length = l) (hm : l ≤ maxLen) :
    Calls Try.prog 8 #[.int .i64 n, .slice A l c] w fun e w' => e = .returned (.bool true) ∧ Below w.heap.size w w' := by
  have HL := Lib.hid hl
  clear hl
  cases hgr : greatB cs with
  | true =>
    have HG := Lib.hid hgr
    clear hgr
    go_enter Try.func8, Try.ntmps8
    go_wp2_with fail
    refine (alive_any w).mono ?_
    rintro e w1 ⟨rfl, b1⟩
    go_wp2_with fail
    refine (great_any A cs l c w.heap.size true w1 (h.below b1) HL.out hm HG.out).mono ?_
    rintro e w1' ⟨rfl, rfl⟩
    go_wp2
    go_ret
    exact ⟨rfl, b1⟩
  | false =>
    by_cases h1 : n < 1
    · have HG := Lib.hid hgr
      clear hgr
      have d1 : decide (n < 1) = true := by simpa using h1
      go_enter Try.func8, Try.ntmps8
      go_wp2_with fail
      refine (alive_any w).mono ?_
      rintro e w1 ⟨rfl, b1⟩
      go_wp2_with fail
      refine (great_any A cs l c w.heap.size false w1 (h.below b1) HL.out hm HG.out).mono ?_
      rintro e w1' ⟨rfl, rfl⟩
      go_wp2
      go_ret
      exact ⟨rfl, b1⟩
    · by_cases h2 : 40 < n
      · have HG := Lib.hid hgr
        clear hgr
        have d1 : decide (n < 1) = false := by simpa using h1
        have d2 : decide (40 < n) = true := by simpa using h2
        go_enter Try.func8, Try.ntmps8
        go_wp2_with fail
        refine (alive_any w).mono ?_
        rintro e w1 ⟨rfl, b1⟩
        go_wp2_with fail
        refine (great_any A cs l c w.heap.size false w1 (h.below b1) HL.out hm HG.out).mono ?_
        rintro e w1' ⟨rfl, rfl⟩
        go_wp2
        go_ret
        exact ⟨rfl, b1⟩
      · obtain ⟨k, rfl⟩ := Int.eq_ofNat_of_zero_le (show 0 ≤ n by omega)
        exact images_body k A cs l c w (by omega) (by omega) h HL.out hm hgr
end Go.Proofs.Ytckkgcogkcljeaa
