/- DiskTears: the walk. -/
import Derived.Test.YtckkgcogkcljeaaDk
import Derived.Deep.RegionHeld3
import Derived.Deep.RegionWith
namespace Go.Proofs.Ytckkgcogkcljeaa
open Go.RowKit Go.Deep Go.Maps
attribute [local go_sem ↓] Go.wp_at_zero Go.wp_at_succ

theorem range_moves {F : Nat → Prop} {w w' : World} {b o : Nat} {cs : List Value} (h : w.rangeAt b o cs) (hm : Moves F w w') (hb : b < w.heap.size) (hF : ¬ F b) : w'.rangeAt b o cs := rangeAt_of_block' (hm.block b hb hF) h
theorem good_take_range {b : Nat} {zs : List Int} {w : World} (h : w.rangeAt b 0 (secC zs)) (hb : b < w.heap.size) (hz : zs.length = 32) (k : Nat) : Good (some ⟨b, 0, none⟩) 32 (zs.take k) w := (good_of_range h hb 32 (Nat.le_of_eq hz)).take k
theorem good_drop_range {b : Nat} {zs : List Int} {w : World} (h : w.rangeAt b 0 (secC zs)) (hb : b < w.heap.size) (hz : zs.length = 32) (k : Nat) (hk : k ≤ 32) : Good (some ⟨b, k, none⟩) (32 - k) (zs.drop k) w := by
  have := (good_of_range h hb 32 (Nat.le_of_eq hz)).drop k (by omega)
  rwa [Nat.zero_add] at this
theorem crash_one (s : List (List Int)) (i : Nat) (zs : List Int) (tear : Int) : crashS ⟨s, [(i, zs)]⟩ 0 tear = ⟨tornS s (i, zs) (tearOf tear), []⟩ := rfl
theorem torn_now (n i : Nat) (s : List (List Int)) (zs : List Int) (t : Nat) (hl : s.length = n) (hi : i < n) : nowAt ⟨tornS s (i, zs) t, []⟩ i = zs.take t ++ (secAt s i).drop t := by
  show secAt (tornS s (i, zs) t) i = _
  unfold tornS
  rw [secAt_set _ _ _ _ (by omega), if_pos rfl]
set_option maxRecDepth 100000 in
set_option maxHeartbeats 2000000 in
theorem tears_mid (n : Nat) (A : Option Addr) (cs : List CallD) (l c : Nat) (at_ : Nat) (A3 : Option Addr) (zs : List Int) (c3 : Nat) (kk' : Nat) (tear : Int) (w : World) (h1 : 1 ≤ n) (h2 : n ≤ 40) (h : CallsAt w.heap.size w A cs) (hl : cs.length = l) (hm : l ≤ maxLen) (hgr : greatB cs = false) (hat : at_ < n) (hz : zs.length = 32) (hg : Good0 w.heap.size w A3 c3 zs) (hear : tear = kk') (hk31 : kk' ≤ 31) :
    Calls Try.prog 6 #[.int .i64 n, .slice A l c, .int .i64 at_, .slice A3 32 c3, .int .i64 tear] w fun e w' => e = .returned (.bool true) ∧ Below w.heap.size w w' := by
  have htear : tearOf tear = kk' := by unfold tearOf; omega
  subst hear
  have HT := Lib.hid htear
  have HL := Lib.hid hl
  have HG := Lib.hid hgr
  have HZ := Lib.hid hz
  have i1 : (1 : Int) ≤ (n : Int) := by omega
  have i2 : (n : Int) ≤ 40 := by omega
  have i3 : (0 : Int) ≤ (at_ : Int) := by omega
  have i4 : (at_ : Int) < (n : Int) := by omega
  have hc32 : 32 ≤ c3 := by have := hg.2.1; omega
  clear hl hgr hz htear
  go_enter Try.func6, Try.ntmps6
  go_wp2_with fail
  refine (alive_any w).mono ?_
  rintro e w1 ⟨rfl, b1⟩
  have hc1 := h.below b1
  have s1 := b1.size
  go_wp2_with fail
  refine (great_any A cs l c w.heap.size false w1 hc1 HL.out hm HG.out).mono ?_
  rintro e w1' ⟨rfl, rfl⟩
  go_wp2_with fail
  refine (begin_any n A cs l c _ w1 h1 (by omega) (calls_more hc1 s1) HL.out HG.out rfl).mono ?_
  rintro e w2 ⟨F, db, rfl, hd2, hF, b2⟩
  have hlen := runS_len n cs
  have hcl := (great_no HG.out).1
  generalize runS n cs = st at *
  have HD := Lib.hid hd2
  have bw2 : Below w.heap.size w w2 := b1.trans (b2.mono s1)
  have s2 := b2.size
  clear hd2 hc1 b2 b1
  go_wp2_with fail
  refine (flush_any F db n st w2 HD.out (by omega)).mono ?_
  rintro e w3 ⟨rfl, hd3, hm3⟩
  have bw3 : Below w.heap.size w w3 := bw2.trans (hm3.below (by omega) (fun k hk => by have := hF k hk; omega))
  have hF3 : ∀ k, grow F w2 w3 k → w.heap.size ≤ k := fun k hk => hk.elim (fun e => by have := hF k e; omega) (fun e => by omega)
  generalize grow F w2 w3 = F3 at *
  have HD3 := Lib.hid hd3
  have s3 := bw3.size
  clear hd3 hm3 HD bw2
  go_wp2_with fail
  refine (read_at F3 db n at_ (flushS st) _ w3 HD3.out hat rfl).mono ?_
  rintro e w4 ⟨bo, rfl, hr4, hl4, hg4, hb4⟩
  have hlo : (nowAt (flushS st) at_).length = 32 := HD3.out.wf.now_len hat
  have HOLD := Lib.hid (rfl : nowAt (flushS st) at_ = nowAt (flushS st) at_)
  have hFo : ¬ F3 bo := fun e => by have := HD3.out.lt bo e; omega
  have HD4 := Lib.hid (HD3.out.below hb4)
  have bw4 : Below w.heap.size w w4 := bw3.trans (hb4.mono s3)
  have s4 := bw4.size
  have HR4 := Lib.hid hr4
  have HLO := Lib.hid hlo
  clear hr4 hb4 hlo HOLD HD3 bw3
  go_wp2_with fail
  refine (write_any F3 db n at_ (flushS st) (writeS (flushS st) at_ zs) A3 32 c3 zs 0 w4 HD4.out HZ.out ((hg.below bw4).good s4) (by simp [flushS]) (by simp [writeE, goodAt]; omega) (by unfold writeT; rw [if_pos (by simp [goodAt]; omega), if_pos HZ.out, Int.toNat_natCast])).mono ?_
  rintro e w5 ⟨rfl, hd5, hm5⟩
  have HD5 := Lib.hid hd5
  have HR5 := Lib.hid (range_moves HR4.out hm5 hg4 hFo)
  have bw5 : Below w.heap.size w w5 := bw4.trans (hm5.below s4 hF3)
  have hF5 : ∀ k, grow F3 w4 w5 k → w.heap.size ≤ k := fun k hk => hk.elim (hF3 k) (fun e => by omega)
  have hFo5 : ¬ grow F3 w4 w5 bo := fun e => e.elim hFo (fun e => by omega)
  have s5 := hm5.size
  generalize grow F3 w4 w5 = F5 at *
  clear hd5 hm5 HD4 HR4
  go_wp2_with fail
  refine (crash_any F5 db n (writeS (flushS st) at_ zs) 0 kk' w5 HD5.out (by simp [writeS, flushS])).mono ?_
  rintro e w6 ⟨rfl, hd6, hm6⟩
  have s6 := hm6.size
  have HR6 := Lib.hid (range_moves HR5.out hm6 (by omega) hFo5)
  have bw6 : Below w.heap.size w w6 := bw5.trans (hm6.below (by omega) hF5)
  have hnow : nowAt (crashS (writeS (flushS st) at_ zs) 0 kk') at_ = zs.take kk' ++ (nowAt (flushS st) at_).drop kk' := by
    have e := crash_one (nows st) at_ zs kk'
    rw [HT.out] at e
    show nowAt (crashS ⟨nows st, [(at_, zs)]⟩ 0 kk') at_ = _
    rw [e]
    exact torn_now n at_ (nows st) zs kk' HD5.out.wf.len hat
  generalize grow F5 w5 w6 = F6 at *
  have HD6 := Lib.hid hd6
  clear hd6 hm6 HD5 HR5
  generalize crashS (writeS (flushS st) at_ zs) 0 kk' = st6 at *
  generalize nowAt (flushS st) at_ = old at *
  have HN := Lib.hid hnow
  clear hnow
  go_wp2_with fail
  refine (read_at F6 db n at_ st6 _ w6 HD6.out hat HN.out).mono ?_
  rintro e w7 ⟨bn, rfl, hr7, hl7, hg7, hb7⟩
  have hln : (zs.take kk' ++ old.drop kk').length = 32 := by rw [List.length_append, List.length_take, List.length_drop]; have := HZ.out; have := HLO.out; omega
  have bw7 : Below w.heap.size w w7 := bw6.trans (hb7.mono bw6.size)
  have ho7 := rangeAt_of_block' (hb7.block bo (by omega)) HR6.out
  have s7 := hb7.size
  have q1 : (zs.take kk' ++ old.drop kk').take kk' = zs.take kk' := by
    rw [List.take_append_of_le_length (by rw [List.length_take]; have := HZ.out; omega), List.take_take, Nat.min_self]
  have q2 : (zs.take kk' ++ old.drop kk').drop kk' = old.drop kk' := by
    rw [List.drop_append_of_le_length (by rw [List.length_take]; have := HZ.out; omega), List.drop_eq_nil_of_le (by rw [List.length_take]; omega), List.nil_append]
  have hT : ∃ T : World → Prop, T w7 ∧ (∀ W, T W → T W.drew) ∧ (∀ W, T W → Below w.heap.size w W) ∧
      (∀ W, T W → Calls Try.prog 16 #[.slice (some ⟨bn, 0, none⟩) kk' 32, .slice A3 kk' c3] W fun e w' => e = .returned (.bool true) ∧ T w') ∧
      (∀ W, T W → Calls Try.prog 16 #[.slice (some ⟨bn, kk', none⟩) (32 - kk') (32 - kk'), .slice (some ⟨bo, kk', none⟩) (32 - kk') (32 - kk')] W fun e w' => e = .returned (.bool true) ∧ T w') := by
    refine ⟨fun W => Below w7.heap.size w7 W, Below.refl _ _, fun W hW => hW.trans (below_drewN (Below.refl _ _) 1), fun W hW => bw7.trans (hW.mono bw7.size), fun W hW => ?_, fun W hW => ?_⟩
    · have g1 := (good_take_range hr7 hg7 hln kk').below hW
      have g2 := (((hg.below bw7).good bw7.size).take kk').below hW
      rw [q1] at g1
      refine (sameB _ _ (zs.take kk') (zs.take kk') _ _ kk' kk' true (by rw [List.length_take]; have := HZ.out; omega) (by rw [List.length_take]; have := HZ.out; omega) (by omega) (by omega) (by simp) W g1 g2).mono ?_
      rintro e w' ⟨rfl, k⟩; exact ⟨rfl, hW.trans (k.mono hW.size)⟩
    · have g1 := (good_drop_range hr7 hg7 hln kk' (by omega)).below hW
      have g2 := (good_drop_range ho7 (by omega) HLO.out kk' (by omega)).below hW
      rw [q2] at g1
      refine (sameB _ _ (old.drop kk') (old.drop kk') _ _ (32 - kk') (32 - kk') true (by rw [List.length_drop]; have := HLO.out; omega) (by rw [List.length_drop]; have := HLO.out; omega) (by omega) (by omega) (by simp) W g1 g2).mono ?_
      rintro e w' ⟨rfl, k⟩; exact ⟨rfl, hW.trans (k.mono hW.size)⟩
  obtain ⟨T, t0, td, tb, T1, T2⟩ := hT
  have j0 : (0 : Int) ≤ (kk' : Int) := by omega
  have j1 : (kk' : Int) ≤ 32 := by omega
  have j2 : (kk' : Int) ≤ (c3 : Int) := by omega
  have j3 : (kk' : Int) ≤ 31 := by omega
  have j4 : ¬ (32 = kk') := by omega
  clear q1 q2 ho7 bw7 hb7 hr7 hln HN HR6 HD6
  go_wp2_with fail
  go_region_held3 (fun w' => T w') (first | assumption | exact td _ (by assumption)) (first
    | (go_at_call_of 16 A3; refine (T1 _ (by assumption)).mono ?_; rintro e w' ⟨rfl, hk⟩)
    | (go_at_call 16; refine (T2 _ (by assumption)).mono ?_; rintro e w' ⟨rfl, hk⟩))
  clear td T1 T2
  go_wp2
  go_ret
  exact ⟨rfl, tb _ (by assumption)⟩
set_option maxRecDepth 100000 in
set_option maxHeartbeats 2000000 in
theorem tears_low (n : Nat) (A : Option Addr) (cs : List CallD) (l c : Nat) (at_ : Nat) (A3 : Option Addr) (zs : List Int) (c3 : Nat) (tear : Int) (w : World) (h1 : 1 ≤ n) (h2 : n ≤ 40) (h : CallsAt w.heap.size w A cs) (hl : cs.length = l) (hm : l ≤ maxLen) (hgr : greatB cs = false) (hat : at_ < n) (hz : zs.length = 32) (hg : Good0 w.heap.size w A3 c3 zs) (hear : tear < 0) :
    Calls Try.prog 6 #[.int .i64 n, .slice A l c, .int .i64 at_, .slice A3 32 c3, .int .i64 tear] w fun e w' => e = .returned (.bool true) ∧ Below w.heap.size w w' := by
  have htear : tearOf tear = 0 := by unfold tearOf; omega
  have HT := Lib.hid htear
  have HL := Lib.hid hl
  have HG := Lib.hid hgr
  have HZ := Lib.hid hz
  have i1 : (1 : Int) ≤ (n : Int) := by omega
  have i2 : (n : Int) ≤ 40 := by omega
  have i3 : (0 : Int) ≤ (at_ : Int) := by omega
  have i4 : (at_ : Int) < (n : Int) := by omega
  have hc32 : 32 ≤ c3 := by have := hg.2.1; omega
  clear hl hgr hz htear
  go_enter Try.func6, Try.ntmps6
  go_wp2_with fail
  refine (alive_any w).mono ?_
  rintro e w1 ⟨rfl, b1⟩
  have hc1 := h.below b1
  have s1 := b1.size
  go_wp2_with fail
  refine (great_any A cs l c w.heap.size false w1 hc1 HL.out hm HG.out).mono ?_
  rintro e w1' ⟨rfl, rfl⟩
  go_wp2_with fail
  refine (begin_any n A cs l c _ w1 h1 (by omega) (calls_more hc1 s1) HL.out HG.out rfl).mono ?_
  rintro e w2 ⟨F, db, rfl, hd2, hF, b2⟩
  have hlen := runS_len n cs
  have hcl := (great_no HG.out).1
  generalize runS n cs = st at *
  have HD := Lib.hid hd2
  have bw2 : Below w.heap.size w w2 := b1.trans (b2.mono s1)
  have s2 := b2.size
  clear hd2 hc1 b2 b1
  go_wp2_with fail
  refine (flush_any F db n st w2 HD.out (by omega)).mono ?_
  rintro e w3 ⟨rfl, hd3, hm3⟩
  have bw3 : Below w.heap.size w w3 := bw2.trans (hm3.below (by omega) (fun k hk => by have := hF k hk; omega))
  have hF3 : ∀ k, grow F w2 w3 k → w.heap.size ≤ k := fun k hk => hk.elim (fun e => by have := hF k e; omega) (fun e => by omega)
  generalize grow F w2 w3 = F3 at *
  have HD3 := Lib.hid hd3
  have s3 := bw3.size
  clear hd3 hm3 HD bw2
  go_wp2_with fail
  refine (read_at F3 db n at_ (flushS st) _ w3 HD3.out hat rfl).mono ?_
  rintro e w4 ⟨bo, rfl, hr4, hl4, hg4, hb4⟩
  have hlo : (nowAt (flushS st) at_).length = 32 := HD3.out.wf.now_len hat
  have HOLD := Lib.hid (rfl : nowAt (flushS st) at_ = nowAt (flushS st) at_)
  have hFo : ¬ F3 bo := fun e => by have := HD3.out.lt bo e; omega
  have HD4 := Lib.hid (HD3.out.below hb4)
  have bw4 : Below w.heap.size w w4 := bw3.trans (hb4.mono s3)
  have s4 := bw4.size
  have HR4 := Lib.hid hr4
  have HLO := Lib.hid hlo
  clear hr4 hb4 hlo HOLD HD3 bw3
  go_wp2_with fail
  refine (write_any F3 db n at_ (flushS st) (writeS (flushS st) at_ zs) A3 32 c3 zs 0 w4 HD4.out HZ.out ((hg.below bw4).good s4) (by simp [flushS]) (by simp [writeE, goodAt]; omega) (by unfold writeT; rw [if_pos (by simp [goodAt]; omega), if_pos HZ.out, Int.toNat_natCast])).mono ?_
  rintro e w5 ⟨rfl, hd5, hm5⟩
  have HD5 := Lib.hid hd5
  have HR5 := Lib.hid (range_moves HR4.out hm5 hg4 hFo)
  have bw5 : Below w.heap.size w w5 := bw4.trans (hm5.below s4 hF3)
  have hF5 : ∀ k, grow F3 w4 w5 k → w.heap.size ≤ k := fun k hk => hk.elim (hF3 k) (fun e => by omega)
  have hFo5 : ¬ grow F3 w4 w5 bo := fun e => e.elim hFo (fun e => by omega)
  have s5 := hm5.size
  generalize grow F3 w4 w5 = F5 at *
  clear hd5 hm5 HD4 HR4
  go_wp2_with fail
  refine (crash_any F5 db n (writeS (flushS st) at_ zs) 0 tear w5 HD5.out (by simp [writeS, flushS])).mono ?_
  rintro e w6 ⟨rfl, hd6, hm6⟩
  have s6 := hm6.size
  have HR6 := Lib.hid (range_moves HR5.out hm6 (by omega) hFo5)
  have bw6 : Below w.heap.size w w6 := bw5.trans (hm6.below (by omega) hF5)
  have hnow : nowAt (crashS (writeS (flushS st) at_ zs) 0 tear) at_ = zs.take 0 ++ (nowAt (flushS st) at_).drop 0 := by
    have e := crash_one (nows st) at_ zs tear
    rw [HT.out] at e
    show nowAt (crashS ⟨nows st, [(at_, zs)]⟩ 0 tear) at_ = _
    rw [e]
    exact torn_now n at_ (nows st) zs 0 HD5.out.wf.len hat
  generalize grow F5 w5 w6 = F6 at *
  have HD6 := Lib.hid hd6
  clear hd6 hm6 HD5 HR5
  generalize crashS (writeS (flushS st) at_ zs) 0 tear = st6 at *
  generalize nowAt (flushS st) at_ = old at *
  have HN := Lib.hid hnow
  clear hnow
  go_wp2_with fail
  refine (read_at F6 db n at_ st6 _ w6 HD6.out hat HN.out).mono ?_
  rintro e w7 ⟨bn, rfl, hr7, hl7, hg7, hb7⟩
  have hln : (zs.take 0 ++ old.drop 0).length = 32 := by rw [List.length_append, List.length_take, List.length_drop]; have := HZ.out; have := HLO.out; omega
  have bw7 : Below w.heap.size w w7 := bw6.trans (hb7.mono bw6.size)
  have ho7 := rangeAt_of_block' (hb7.block bo (by omega)) HR6.out
  have s7 := hb7.size
  have q1 : (zs.take 0 ++ old.drop 0).take 0 = zs.take 0 := by
    rw [List.take_append_of_le_length (by rw [List.length_take]; have := HZ.out; omega), List.take_take, Nat.min_self]
  have q2 : (zs.take 0 ++ old.drop 0).drop 0 = old.drop 0 := by
    rw [List.drop_append_of_le_length (by rw [List.length_take]; have := HZ.out; omega), List.drop_eq_nil_of_le (by rw [List.length_take]; omega), List.nil_append]
  have hT : ∃ T : World → Prop, T w7 ∧ (∀ W, T W → T W.drew) ∧ (∀ W, T W → Below w.heap.size w W) ∧
      (∀ W, T W → Calls Try.prog 16 #[.slice (some ⟨bn, 0, none⟩) 0 32, .slice A3 0 c3] W fun e w' => e = .returned (.bool true) ∧ T w') ∧
      (∀ W, T W → Calls Try.prog 16 #[.slice (some ⟨bn, 0, none⟩) 32 32, .slice (some ⟨bo, 0, none⟩) 32 32] W fun e w' => e = .returned (.bool true) ∧ T w') := by
    refine ⟨fun W => Below w7.heap.size w7 W, Below.refl _ _, fun W hW => hW.trans (below_drewN (Below.refl _ _) 1), fun W hW => bw7.trans (hW.mono bw7.size), fun W hW => ?_, fun W hW => ?_⟩
    · have g1 := (good_take_range hr7 hg7 hln 0).below hW
      have g2 := (((hg.below bw7).good bw7.size).take 0).below hW
      rw [q1] at g1
      refine (sameB _ _ (zs.take 0) (zs.take 0) _ _ 0 0 true (by rw [List.length_take]; have := HZ.out; omega) (by rw [List.length_take]; have := HZ.out; omega) (by omega) (by omega) (by simp) W g1 g2).mono ?_
      rintro e w' ⟨rfl, k⟩; exact ⟨rfl, hW.trans (k.mono hW.size)⟩
    · have g1 := (good_drop_range hr7 hg7 hln 0 (by omega)).below hW
      have g2 := (good_drop_range ho7 (by omega) HLO.out 0 (by omega)).below hW
      rw [q2] at g1
      refine (sameB _ _ (old.drop 0) (old.drop 0) _ _ 32 32 true (by rw [List.length_drop]; have := HLO.out; omega) (by rw [List.length_drop]; have := HLO.out; omega) (by omega) (by omega) (by simp) W g1 g2).mono ?_
      rintro e w' ⟨rfl, k⟩; exact ⟨rfl, hW.trans (k.mono hW.size)⟩
  obtain ⟨T, t0, td, tb, T1, T2⟩ := hT
  have j0 : (0 : Int) ≤ (0 : Int) := by omega
  have j1 : (0 : Int) ≤ 32 := by omega
  have j2 : (0 : Int) ≤ (c3 : Int) := by omega
  have j3 : (0 : Int) ≤ 31 := by omega
  have j4 : ¬ (32 = 0) := by omega
  clear q1 q2 ho7 bw7 hb7 hr7 hln HN HR6 HD6
  go_wp2_with fail
  go_region_held3 (fun w' => T w') (first | assumption | exact td _ (by assumption)) (first
    | (go_at_call_of 16 A3; refine (T1 _ (by assumption)).mono ?_; rintro e w' ⟨rfl, hk⟩)
    | (go_at_call 16; refine (T2 _ (by assumption)).mono ?_; rintro e w' ⟨rfl, hk⟩))
  clear td T1 T2
  go_wp2
  go_ret
  exact ⟨rfl, tb _ (by assumption)⟩
set_option maxRecDepth 100000 in
set_option maxHeartbeats 2000000 in
theorem tears_high (n : Nat) (A : Option Addr) (cs : List CallD) (l c : Nat) (at_ : Nat) (A3 : Option Addr) (zs : List Int) (c3 : Nat) (tear : Int) (w : World) (h1 : 1 ≤ n) (h2 : n ≤ 40) (h : CallsAt w.heap.size w A cs) (hl : cs.length = l) (hm : l ≤ maxLen) (hgr : greatB cs = false) (hat : at_ < n) (hz : zs.length = 32) (hg : Good0 w.heap.size w A3 c3 zs) (hear : 31 < tear) :
    Calls Try.prog 6 #[.int .i64 n, .slice A l c, .int .i64 at_, .slice A3 32 c3, .int .i64 tear] w fun e w' => e = .returned (.bool true) ∧ Below w.heap.size w w' := by
  have htear : tearOf tear = 31 := by unfold tearOf; omega
  have HT := Lib.hid htear
  have HL := Lib.hid hl
  have HG := Lib.hid hgr
  have HZ := Lib.hid hz
  have i1 : (1 : Int) ≤ (n : Int) := by omega
  have i2 : (n : Int) ≤ 40 := by omega
  have i3 : (0 : Int) ≤ (at_ : Int) := by omega
  have i4 : (at_ : Int) < (n : Int) := by omega
  have hc32 : 32 ≤ c3 := by have := hg.2.1; omega
  clear hl hgr hz htear
  go_enter Try.func6, Try.ntmps6
  go_wp2_with fail
  refine (alive_any w).mono ?_
  rintro e w1 ⟨rfl, b1⟩
  have hc1 := h.below b1
  have s1 := b1.size
  go_wp2_with fail
  refine (great_any A cs l c w.heap.size false w1 hc1 HL.out hm HG.out).mono ?_
  rintro e w1' ⟨rfl, rfl⟩
  go_wp2_with fail
  refine (begin_any n A cs l c _ w1 h1 (by omega) (calls_more hc1 s1) HL.out HG.out rfl).mono ?_
  rintro e w2 ⟨F, db, rfl, hd2, hF, b2⟩
  have hlen := runS_len n cs
  have hcl := (great_no HG.out).1
  generalize runS n cs = st at *
  have HD := Lib.hid hd2
  have bw2 : Below w.heap.size w w2 := b1.trans (b2.mono s1)
  have s2 := b2.size
  clear hd2 hc1 b2 b1
  go_wp2_with fail
  refine (flush_any F db n st w2 HD.out (by omega)).mono ?_
  rintro e w3 ⟨rfl, hd3, hm3⟩
  have bw3 : Below w.heap.size w w3 := bw2.trans (hm3.below (by omega) (fun k hk => by have := hF k hk; omega))
  have hF3 : ∀ k, grow F w2 w3 k → w.heap.size ≤ k := fun k hk => hk.elim (fun e => by have := hF k e; omega) (fun e => by omega)
  generalize grow F w2 w3 = F3 at *
  have HD3 := Lib.hid hd3
  have s3 := bw3.size
  clear hd3 hm3 HD bw2
  go_wp2_with fail
  refine (read_at F3 db n at_ (flushS st) _ w3 HD3.out hat rfl).mono ?_
  rintro e w4 ⟨bo, rfl, hr4, hl4, hg4, hb4⟩
  have hlo : (nowAt (flushS st) at_).length = 32 := HD3.out.wf.now_len hat
  have HOLD := Lib.hid (rfl : nowAt (flushS st) at_ = nowAt (flushS st) at_)
  have hFo : ¬ F3 bo := fun e => by have := HD3.out.lt bo e; omega
  have HD4 := Lib.hid (HD3.out.below hb4)
  have bw4 : Below w.heap.size w w4 := bw3.trans (hb4.mono s3)
  have s4 := bw4.size
  have HR4 := Lib.hid hr4
  have HLO := Lib.hid hlo
  clear hr4 hb4 hlo HOLD HD3 bw3
  go_wp2_with fail
  refine (write_any F3 db n at_ (flushS st) (writeS (flushS st) at_ zs) A3 32 c3 zs 0 w4 HD4.out HZ.out ((hg.below bw4).good s4) (by simp [flushS]) (by simp [writeE, goodAt]; omega) (by unfold writeT; rw [if_pos (by simp [goodAt]; omega), if_pos HZ.out, Int.toNat_natCast])).mono ?_
  rintro e w5 ⟨rfl, hd5, hm5⟩
  have HD5 := Lib.hid hd5
  have HR5 := Lib.hid (range_moves HR4.out hm5 hg4 hFo)
  have bw5 : Below w.heap.size w w5 := bw4.trans (hm5.below s4 hF3)
  have hF5 : ∀ k, grow F3 w4 w5 k → w.heap.size ≤ k := fun k hk => hk.elim (hF3 k) (fun e => by omega)
  have hFo5 : ¬ grow F3 w4 w5 bo := fun e => e.elim hFo (fun e => by omega)
  have s5 := hm5.size
  generalize grow F3 w4 w5 = F5 at *
  clear hd5 hm5 HD4 HR4
  go_wp2_with fail
  refine (crash_any F5 db n (writeS (flushS st) at_ zs) 0 tear w5 HD5.out (by simp [writeS, flushS])).mono ?_
  rintro e w6 ⟨rfl, hd6, hm6⟩
  have s6 := hm6.size
  have HR6 := Lib.hid (range_moves HR5.out hm6 (by omega) hFo5)
  have bw6 : Below w.heap.size w w6 := bw5.trans (hm6.below (by omega) hF5)
  have hnow : nowAt (crashS (writeS (flushS st) at_ zs) 0 tear) at_ = zs.take 31 ++ (nowAt (flushS st) at_).drop 31 := by
    have e := crash_one (nows st) at_ zs tear
    rw [HT.out] at e
    show nowAt (crashS ⟨nows st, [(at_, zs)]⟩ 0 tear) at_ = _
    rw [e]
    exact torn_now n at_ (nows st) zs 31 HD5.out.wf.len hat
  generalize grow F5 w5 w6 = F6 at *
  have HD6 := Lib.hid hd6
  clear hd6 hm6 HD5 HR5
  generalize crashS (writeS (flushS st) at_ zs) 0 tear = st6 at *
  generalize nowAt (flushS st) at_ = old at *
  have HN := Lib.hid hnow
  clear hnow
  go_wp2_with fail
  refine (read_at F6 db n at_ st6 _ w6 HD6.out hat HN.out).mono ?_
  rintro e w7 ⟨bn, rfl, hr7, hl7, hg7, hb7⟩
  have hln : (zs.take 31 ++ old.drop 31).length = 32 := by rw [List.length_append, List.length_take, List.length_drop]; have := HZ.out; have := HLO.out; omega
  have bw7 : Below w.heap.size w w7 := bw6.trans (hb7.mono bw6.size)
  have ho7 := rangeAt_of_block' (hb7.block bo (by omega)) HR6.out
  have s7 := hb7.size
  have q1 : (zs.take 31 ++ old.drop 31).take 31 = zs.take 31 := by
    rw [List.take_append_of_le_length (by rw [List.length_take]; have := HZ.out; omega), List.take_take, Nat.min_self]
  have q2 : (zs.take 31 ++ old.drop 31).drop 31 = old.drop 31 := by
    rw [List.drop_append_of_le_length (by rw [List.length_take]; have := HZ.out; omega), List.drop_eq_nil_of_le (by rw [List.length_take]; omega), List.nil_append]
  have hT : ∃ T : World → Prop, T w7 ∧ (∀ W, T W → T W.drew) ∧ (∀ W, T W → Below w.heap.size w W) ∧
      (∀ W, T W → Calls Try.prog 16 #[.slice (some ⟨bn, 0, none⟩) 31 32, .slice A3 31 c3] W fun e w' => e = .returned (.bool true) ∧ T w') ∧
      (∀ W, T W → Calls Try.prog 16 #[.slice (some ⟨bn, 31, none⟩) 1 1, .slice (some ⟨bo, 31, none⟩) 1 1] W fun e w' => e = .returned (.bool true) ∧ T w') := by
    refine ⟨fun W => Below w7.heap.size w7 W, Below.refl _ _, fun W hW => hW.trans (below_drewN (Below.refl _ _) 1), fun W hW => bw7.trans (hW.mono bw7.size), fun W hW => ?_, fun W hW => ?_⟩
    · have g1 := (good_take_range hr7 hg7 hln 31).below hW
      have g2 := (((hg.below bw7).good bw7.size).take 31).below hW
      rw [q1] at g1
      refine (sameB _ _ (zs.take 31) (zs.take 31) _ _ 31 31 true (by rw [List.length_take]; have := HZ.out; omega) (by rw [List.length_take]; have := HZ.out; omega) (by omega) (by omega) (by simp) W g1 g2).mono ?_
      rintro e w' ⟨rfl, k⟩; exact ⟨rfl, hW.trans (k.mono hW.size)⟩
    · have g1 := (good_drop_range hr7 hg7 hln 31 (by omega)).below hW
      have g2 := (good_drop_range ho7 (by omega) HLO.out 31 (by omega)).below hW
      rw [q2] at g1
      refine (sameB _ _ (old.drop 31) (old.drop 31) _ _ 1 1 true (by rw [List.length_drop]; have := HLO.out; omega) (by rw [List.length_drop]; have := HLO.out; omega) (by omega) (by omega) (by simp) W g1 g2).mono ?_
      rintro e w' ⟨rfl, k⟩; exact ⟨rfl, hW.trans (k.mono hW.size)⟩
  obtain ⟨T, t0, td, tb, T1, T2⟩ := hT
  have j0 : (0 : Int) ≤ (31 : Int) := by omega
  have j1 : (31 : Int) ≤ 32 := by omega
  have j2 : (31 : Int) ≤ (c3 : Int) := by omega
  have j3 : (31 : Int) ≤ 31 := by omega
  have j4 : ¬ (32 = 31) := by omega
  clear q1 q2 ho7 bw7 hb7 hr7 hln HN HR6 HD6
  go_wp2_with fail
  go_region_held3 (fun w' => T w') (first | assumption | exact td _ (by assumption)) (first
    | (go_at_call_of 16 A3; refine (T1 _ (by assumption)).mono ?_; rintro e w' ⟨rfl, hk⟩)
    | (go_at_call 16; refine (T2 _ (by assumption)).mono ?_; rintro e w' ⟨rfl, hk⟩))
  clear td T1 T2
  go_wp2
  go_ret
  exact ⟨rfl, tb _ (by assumption)⟩
set_option maxRecDepth 100000 in
set_option maxHeartbeats 1000000 in
theorem tears_any (n : Int) (A : Option Addr) (cs : List CallD) (l c : Nat) (at_ : Int) (A3 : Option Addr) (zs : List Int) (l3 c3 : Nat) (tear : Int) (w : World) (h : CallsAt w.heap.size w A cs) (hl : cs.length = l) (hm : l ≤ maxLen) (hz : zs.length = l3) (hg : Good0 w.heap.size w A3 c3 zs) :
    Calls Try.prog 6 #[.int .i64 n, .slice A l c, .int .i64 at_, .slice A3 l3 c3, .int .i64 tear] w fun e w' => e = .returned (.bool true) ∧ Below w.heap.size w w' := by
  have HL := Lib.hid hl
  have HZ := Lib.hid hz
  clear hl hz
  cases hgr : greatB cs with
  | true =>
    have HG := Lib.hid hgr
    clear hgr
    go_enter Try.func6, Try.ntmps6
    go_wp2_with fail
    refine (alive_any w).mono ?_
    rintro e w1 ⟨rfl, b1⟩
    go_wp2_with fail
    refine (great_any A cs l c w.heap.size true w1 (h.below b1) HL.out hm HG.out).mono ?_
    rintro e w1' ⟨rfl, rfl⟩
    go_wp2
    go_ret
    exact ⟨rfl, b1⟩
  | false =>
    have HG := Lib.hid hgr
    clear hgr
    by_cases h1 : n < 1
    · have d1 : decide (n < 1) = true := by simpa using h1
      go_enter Try.func6, Try.ntmps6
      go_wp2_with fail
      refine (alive_any w).mono ?_
      rintro e w1 ⟨rfl, b1⟩
      go_wp2_with fail
      refine (great_any A cs l c w.heap.size false w1 (h.below b1) HL.out hm HG.out).mono ?_
      rintro e w1' ⟨rfl, rfl⟩
      go_wp2
      go_ret
      exact ⟨rfl, b1⟩
    by_cases h2 : 40 < n
    · have d2 : decide (40 < n) = true := by simpa using h2
      have d1 : decide (n < 1) = false := by simp; omega
      go_enter Try.func6, Try.ntmps6
      go_wp2_with fail
      refine (alive_any w).mono ?_
      rintro e w1 ⟨rfl, b1⟩
      go_wp2_with fail
      refine (great_any A cs l c w.heap.size false w1 (h.below b1) HL.out hm HG.out).mono ?_
      rintro e w1' ⟨rfl, rfl⟩
      go_wp2
      go_ret
      exact ⟨rfl, b1⟩
    by_cases h3 : at_ < 0
    · have d3 : decide (at_ < 0) = true := by simpa using h3
      have d1 : decide (n < 1) = false := by simp; omega
      have d2 : decide (40 < n) = false := by simp; omega
      go_enter Try.func6, Try.ntmps6
      go_wp2_with fail
      refine (alive_any w).mono ?_
      rintro e w1 ⟨rfl, b1⟩
      go_wp2_with fail
      refine (great_any A cs l c w.heap.size false w1 (h.below b1) HL.out hm HG.out).mono ?_
      rintro e w1' ⟨rfl, rfl⟩
      go_wp2
      go_ret
      exact ⟨rfl, b1⟩
    by_cases h4 : n ≤ at_
    · have d4 : decide (n ≤ at_) = true := by simpa using h4
      have d1 : decide (n < 1) = false := by simp; omega
      have d2 : decide (40 < n) = false := by simp; omega
      have d3 : decide (at_ < 0) = false := by simp; omega
      go_enter Try.func6, Try.ntmps6
      go_wp2_with fail
      refine (alive_any w).mono ?_
      rintro e w1 ⟨rfl, b1⟩
      go_wp2_with fail
      refine (great_any A cs l c w.heap.size false w1 (h.below b1) HL.out hm HG.out).mono ?_
      rintro e w1' ⟨rfl, rfl⟩
      go_wp2
      go_ret
      exact ⟨rfl, b1⟩
    by_cases h5 : l3 ≠ 32
    · have d5 : ((l3 : Int) != 32) = true := by simp; omega
      have d1 : decide (n < 1) = false := by simp; omega
      have d2 : decide (40 < n) = false := by simp; omega
      have d3 : decide (at_ < 0) = false := by simp; omega
      have d4 : decide (n ≤ at_) = false := by simp; omega
      go_enter Try.func6, Try.ntmps6
      go_wp2_with fail
      refine (alive_any w).mono ?_
      rintro e w1 ⟨rfl, b1⟩
      go_wp2_with fail
      refine (great_any A cs l c w.heap.size false w1 (h.below b1) HL.out hm HG.out).mono ?_
      rintro e w1' ⟨rfl, rfl⟩
      go_wp2
      go_ret
      exact ⟨rfl, b1⟩
    obtain ⟨k, rfl⟩ := Int.eq_ofNat_of_zero_le (show 0 ≤ n by omega)
    obtain ⟨i, rfl⟩ := Int.eq_ofNat_of_zero_le (show 0 ≤ at_ by omega)
    obtain rfl : l3 = 32 := by omega
    by_cases t0 : tear < 0
    · exact tears_low k A cs l c i A3 zs c3 tear w (by omega) (by omega) h HL.out hm HG.out (by omega) HZ.out hg t0
    · by_cases t1 : 31 < tear
      · exact tears_high k A cs l c i A3 zs c3 tear w (by omega) (by omega) h HL.out hm HG.out (by omega) HZ.out hg t1
      · exact tears_mid k A cs l c i A3 zs c3 tear.toNat tear w (by omega) (by omega) h HL.out hm HG.out (by omega) HZ.out hg (by omega) (by omega)
end Go.Proofs.Ytckkgcogkcljeaa
