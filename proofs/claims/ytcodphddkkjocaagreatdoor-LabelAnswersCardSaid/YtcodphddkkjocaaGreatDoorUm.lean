/- The document's own Read (concordatref07). -/
import Derived.Test.YtcodphddkkjocaaGreatDoorUl
import Derived.Test.YtcodphddkkjocaaGreatDoorQe
import Derived.Test.YtcodphddkkjocaaGreatDoorUh
import Derived.Laws.Strings3
namespace Go.Proofs.YtcodphddkkjocaaGreatDoor
open Go.RowKit Go.Deep
set_option linter.unusedVariables false

theorem labT_front (x y : Nat) : labT x y = (115 :: 58 :: textB x) ++ 32 :: 116 :: 58 :: textB y := by rw [labT_eq]; rfl
theorem front_blank {x : Nat} (hx : x < 18446744073709551616) : (32 : UInt8) ∉ (115 :: 58 :: textB x) := by
  have := text_blank hx
  simp [this]
theorem lab_first {x y i : Nat} (hx : x < 18446744073709551616) (h1 : ∀ j, j < i → (labT x y)[j]? ≠ some 32) (h2 : (labT x y)[i]? = some 32) : i = 2 + (textB x).length := by
  have hl : (115 :: 58 :: textB x : List UInt8).length = 2 + (textB x).length := by simp; omega
  have hm : (labT x y)[2 + (textB x).length]? = some 32 := by rw [labT_front, ← hl]; simp
  rcases Nat.lt_trichotomy i (2 + (textB x).length) with h | h | h
  · exfalso
    rw [labT_front, List.getElem?_append_left (by omega)] at h2
    exact front_blank hx (List.mem_of_getElem? h2)
  · exact h
  · exact absurd hm (h1 _ h)
/-- The text's parts ahead of and behind a place. -/
def aheadL (t : List UInt8) (i : Nat) : List UInt8 := (t.take i).drop 2
def behindL (t : List UInt8) (i : Nat) : List UInt8 := t.drop (i + 3)
theorem lab_ahead (x y : Nat) : aheadL (labT x y) (2 + (textB x).length) = textB x ∧ behindL (labT x y) (2 + (textB x).length) = textB y := by
  have hl : (115 :: 58 :: textB x : List UInt8).length = 2 + (textB x).length := by simp; omega
  unfold aheadL behindL
  rw [labT_front, ← hl, List.take_left, ← List.drop_drop, List.drop_left]
  exact ⟨rfl, rfl⟩
theorem extract_ahead (t : List UInt8) (k : Nat) : (strB t).extract 2 k = strB (aheadL t k) := by
  unfold strB aheadL
  rw [ByteArray.extract_mk, List.drop_take]
theorem extract_behind (t : List UInt8) (k : Nat) : (strB t).extract (k + 3) t.length = strB (behindL t k) := by
  unfold strB behindL
  rw [ByteArray.extract_mk]
  simp
  rw [List.take_of_length_le (by rw [List.length_drop]; exact Nat.le_refl _)]
def firstB (t : List UInt8) (i : Nat) : Prop := (∀ j, j < i → t[j]? ≠ some 32) ∧ t[i]? = some 32
theorem readD_zero {t : List UInt8} (h : ∀ a : LabD, readD t ≠ (a, true)) : readD t = (⟨0, 0⟩, false) := by
  obtain ⟨a, o, e⟩ : ∃ a o, readD t = (a, o) := ⟨_, _, rfl⟩
  cases o with
  | true => exact absurd e (h a)
  | false => rw [e, (readD_bad e).1]
theorem readD_none {t : List UInt8} (h : ∀ j, j < t.length → t[j]? ≠ some 32) : readD t = (⟨0, 0⟩, false) := readD_zero fun a e => by
  have e2 := readD_good e
  have ha : a.ok := by have := readD_lt t; rw [e] at this; exact this
  have hm : (labT a.s a.t)[2 + (textB a.s).length]? = some 32 := by
    rw [labT_front, show 2 + (textB a.s).length = (115 :: 58 :: textB a.s : List UInt8).length by simp; omega]; simp
  rw [e2] at hm
  exact h _ (by rcases Nat.lt_or_ge (2 + (textB a.s).length) t.length with k | k; exact k; rw [List.getElem?_eq_none k] at hm; cases hm) hm
theorem readD_short {t : List UInt8} {i : Nat} (h : firstB t i) (hs : i < 2 ∨ t.length < i + 3) : readD t = (⟨0, 0⟩, false) := readD_zero fun a e => by
  have e2 := readD_good e
  have ha : a.ok := by have := readD_lt t; rw [e] at this; exact this
  subst e2
  have := lab_first ha.1 h.1 h.2
  rw [labT_front] at hs
  simp at hs
  omega
theorem readD_at {t : List UInt8} {i : Nat} (h : firstB t i) : readD t = if ((readN (aheadL t i)).2 && (readN (behindL t i)).2 && decide (labT (readN (aheadL t i)).1 (readN (behindL t i)).1 = t)) = true then (⟨(readN (aheadL t i)).1, (readN (behindL t i)).1⟩, true) else (⟨0, 0⟩, false) := by
  split
  · rename_i hg
    rw [Bool.and_eq_true, decide_eq_true_iff] at hg
    have := readD_text _ _ (read_lt (aheadL t i)) (read_lt (behindL t i))
    rwa [hg.2] at this
  · rename_i hg
    refine readD_zero fun a e => hg ?_
    have e2 := readD_good e
    have ha : a.ok := by have := readD_lt t; rw [e] at this; exact this
    subst e2
    have hi := lab_first ha.1 h.1 h.2
    subst hi
    rw [(lab_ahead a.s a.t).1, (lab_ahead a.s a.t).2, read_text ha.1, read_text ha.2]
    simp
set_option maxRecDepth 100000 in
set_option maxHeartbeats 4000000 in
theorem refLabRead (t : List UInt8) (a : LabD) (o : Bool) (hl : t.length ≤ 1000) (hr : readD t = (a, o)) (w : World) :
    Calls Tryz.prog 8 #[.string (strB t)] w fun e w' => e = .returned (.tuple #[labV a, .bool o]) ∧ Below w.heap.size w w' := by
  obtain ⟨len, hlen⟩ : ∃ len, t.length = len := ⟨_, rfl⟩
  have hsz : (strB t).size = len := by rw [strB_size, hlen]
  obtain ⟨x, y⟩ := a
  have HLEN := Lib.hid hlen
  have HR := Lib.hid hr
  rw [hlen] at hl
  clear hlen hr
  obtain ⟨ts, hts⟩ : ∃ ts, strB t = ts := ⟨_, rfl⟩
  rw [hts] at hsz
  rw [hts]
  have HTS := Lib.hid hts
  clear hts
  have b1 := LabBox.new w 0 0 24
  have hB1 : Below w.heap.size w (w.alloc (.cells #[.int .u64 (0 : Nat), .int .u64 (0 : Nat)] 24)) := (Below.refl _ w).alloc (Nat.le_refl _) _
  rw [Int.natCast_zero] at b1 hB1
  unfold labV
  go_enter Tryz.func8, Tryz.ntmps8
  go_wp2_with fail
  generalize w.alloc (.cells #[.int .u64 0, .int .u64 0] 24) = W0 at *
  have HBOX := Lib.hid b1
  obtain ⟨d0, d1, g0, g1, hlt0⟩ := b1
  go_loop [4] (fun i => ∃ k : Nat, k ≤ len ∧ i = .int .i64 k ∧ ∀ j, j < k → t[j]? ≠ some 32) (fun i => len - (intOf i).toNat)
  case atStart => exact ⟨0, Nat.zero_le _, rfl, fun j hj => absurd hj (by omega)⟩
  case round =>
    obtain ⟨k, hk, rfl, hall⟩ := hrel
    have HA := Lib.hid hall
    clear hall
    by_cases hlt : k < len
    · have hisz : k < ts.size := by omega
      have hti : k < t.length := by have := HLEN.out; omega
      obtain ⟨c, hc⟩ : ∃ c, (t[k]'hti).toNat = c := ⟨_, rfl⟩
      have hidx : (ts[k]'hisz).toNat = c := by
        have h1 := HTS.out
        subst h1
        exact hc
      by_cases h32 : c = 32
      · have hx : t[k]? = some 32 := by
          rw [List.getElem?_eq_getElem hti]
          exact congrArg some ((u8_eq _ 32 (by decide)).2 (by rw [hc]; exact h32))
        have HFB := Lib.hid (show firstB t k from ⟨HA.out, hx⟩)
        subst h32
        clear hc hx HA
        by_cases hs : k < 2 ∨ len < k + 3
        · have HZ := Lib.hid (HR.out.symm.trans (readD_short HFB.out (by have := HLEN.out; omega)))
          have hcase : k < 2 ∨ (2 ≤ k ∧ len < k + 3) := by omega
          clear hs
          rcases hcase with hs1 | ⟨hs1, hs2⟩
          all_goals
            go_wp2_with fail
            refine bodyPost_ret (v := .tuple #[.agg #[.int .u64 0, .int .u64 0], .bool false]) ?_ rfl ⟨?_, ?_⟩
            · simp [results, Tryz.results8, go_sem, d0, d1]
            · have := HZ.out; obtain ⟨h1, h2⟩ := Prod.mk.inj this; obtain ⟨rfl, rfl⟩ := LabD.mk.inj h1; subst h2; rfl
            · repeat first | exact hB1 | refine below_sc7 ?_ (by omega) _ | refine Below.drew ?_
        · have hs1 : 2 ≤ k := by omega
          have hs2 : k + 3 ≤ len := by omega
          clear hs
          have hRD := readD_at HFB.out
          have hpl : (aheadL t k).length ≤ 1000 := by unfold aheadL; rw [List.length_drop, List.length_take]; have := HLEN.out; omega
          have hrl : (behindL t k).length ≤ 1000 := by unfold behindL; rw [List.length_drop]; have := HLEN.out; omega
          have hx1 : ts.extract 2 k = strB (aheadL t k) := by rw [← HTS.out]; exact extract_ahead t k
          have hx2 : ts.extract (k + 3) len = strB (behindL t k) := by rw [← HTS.out, ← HLEN.out]; exact extract_behind t k
          have cP := fun W => ref_read (aheadL t k) (readN (aheadL t k)).1 (readN (aheadL t k)).2 hpl (read_same (aheadL t k)) W
          have cR := fun W => ref_read (behindL t k) (readN (behindL t k)).1 (readN (behindL t k)).2 hrl (read_same (behindL t k)) W
          have hsl : okW64 (readN (aheadL t k)).1 := read_lt _
          have hul : okW64 (readN (behindL t k)).1 := read_lt _
          have cS := fun W => refLabShow (readN (aheadL t k)).1 (readN (behindL t k)).1 hsl hul W
          obtain ⟨e0, he0⟩ : ∃ e, decide (labT (readN (aheadL t k)).1 (readN (behindL t k)).1 = t) = e := ⟨_, rfl⟩
          have hE : ((strB (labT (readN (aheadL t k)).1 (readN (behindL t k)).1)).toList == ts.toList) = e0 := by
            rw [← he0, ← HTS.out, Lib.toList_data, Lib.toList_data, strB_list, strB_list]
            rw [Bool.eq_iff_iff, beq_iff_eq, decide_eq_true_iff]
          rw [he0] at hRD
          have HRR := Lib.hid (HR.out.symm.trans hRD)
          generalize (readN (aheadL t k)).1 = s at *
          generalize (readN (aheadL t k)).2 = f1 at *
          generalize (readN (behindL t k)).1 = u at *
          generalize (readN (behindL t k)).2 = f2 at *
          generalize strB (aheadL t k) = tp at *
          generalize strB (behindL t k) = tr at *
          generalize strB (labT s u) = tl at *
          have n1 : (2 : Int) ≤ (k : Int) := by omega
          have n2 : (k : Int) ≤ (len : Int) := by omega
          have n3 : (0 : Int) ≤ (k : Int) + 3 := by omega
          have n4 : (k : Int) + 3 ≤ (len : Int) := by omega
          have n5 : ¬ ((k : Int) < 2) := by omega
          have n6 : ¬ ((len : Int) < (k : Int) + 3) := by omega
          unfold labV at cS
          simp only at cS
          clear hRD hpl hrl hsl hul he0 HFB HR HLEN HTS
          have hff : (f1 = true ∧ f2 = true) ∨ (f1 = false ∨ (f1 = true ∧ f2 = false)) := by cases f1 <;> cases f2 <;> simp
          rcases hff with ⟨rfl, rfl⟩ | hno
          · have hE2 := hE
            go_wp2_with fail
            refine (cP _).mono ?_
            rintro e w1 ⟨rfl, j1⟩
            have b2 := HBOX.out.later ⟨j1⟩
            have hB2 := below_more hB1 j1 (Nat.le_refl _)
            clear j1 cP
            go_wp2_with fail
            refine (cR _).mono ?_
            rintro e w2 ⟨rfl, j2⟩
            have z2 := later_alloc w2 (.cells #[.int .u64 s, .int .u64 u] 24)
            have hlw2 := (b2.later ⟨j2⟩).lt
            have b3 := (b2.later ⟨j2⟩).later z2
            have x3 := LabBox.new w2 s u 24
            have hB3 := below_more (below_more hB2 j2 (Nat.le_refl _)) z2.b (Nat.le_refl _)
            have e0b := b3.c0
            have e1b := b3.c1
            have e2b := b3.f0
            have e3b := b3.f1
            clear j2 cR b2 hB2 z2
            have x0 := x3.c0
            have x1 := x3.c1
            go_wp2_with fail
            refine (cS _).mono ?_
            rintro e w3 ⟨rfl, j3⟩
            have b4 := b3.later ⟨j3⟩
            have x4 := x3.later ⟨j3⟩
            have hB4 := below_more hB3 j3 (Nat.le_refl _)
            have hne : ¬ (w.heap.size = w2.heap.size) := by omega
            have hne2 : ¬ (w2.heap.size = w.heap.size) := by omega
            clear hlw2
            clear e0b e1b e2b e3b x0 x1 j3 cS b3 x3 hB3
            generalize w2.heap.size = xb at *
            obtain ⟨k0, k1, k2, k3, _⟩ := b4
            obtain ⟨m0, m1, _, _, _⟩ := x4
            cases e0 with
            | true =>
              have HZ := Lib.hid (show ((⟨x, y⟩ : LabD), o) = (⟨s, u⟩, true) by
                have h0 := HRR.out
                simpa using h0)
              clear HRR
              go_wp2_with fail
              refine bodyPost_ret (v := .tuple #[.agg #[.int .u64 s, .int .u64 u], .bool true]) ?_ rfl ⟨?_, ?_⟩
              · simp [results, Tryz.results8, go_sem, k0, k1]
              · have := HZ.out; obtain ⟨h1, h2⟩ := Prod.mk.inj this; obtain ⟨rfl, rfl⟩ := LabD.mk.inj h1; subst h2; rfl
              · repeat first | exact hB4 | refine below_sc7 ?_ (by omega) _ | refine Below.drew ?_
            | false =>
              have HZ := Lib.hid (show ((⟨x, y⟩ : LabD), o) = (⟨0, 0⟩, false) by
                have h0 := HRR.out
                simpa using h0)
              clear HRR
              go_wp2_with fail
              refine bodyPost_ret (v := .tuple #[.agg #[.int .u64 0, .int .u64 0], .bool false]) ?_ rfl ⟨?_, ?_⟩
              · simp [results, Tryz.results8, go_sem, k0, k1]
              · have := HZ.out; obtain ⟨h1, h2⟩ := Prod.mk.inj this; obtain ⟨rfl, rfl⟩ := LabD.mk.inj h1; subst h2; rfl
              · repeat first | exact hB4 | refine below_sc7 ?_ (by omega) _ | refine Below.drew ?_
          · have HZ := Lib.hid (show ((⟨x, y⟩ : LabD), o) = (⟨0, 0⟩, false) by
              have h0 := HRR.out
              rcases hno with rfl | ⟨rfl, rfl⟩ <;> simpa using h0)
            clear HRR
            rcases hno with rfl | ⟨rfl, rfl⟩
            all_goals
              go_wp2_with fail
              refine (cP _).mono ?_
              rintro e w1 ⟨rfl, j1⟩
              have b2 := HBOX.out.later ⟨j1⟩
              have hB2 := below_more hB1 j1 (Nat.le_refl _)
              clear j1 cP
              go_wp2_with fail
              refine (cR _).mono ?_
              rintro e w2 ⟨rfl, j2⟩
              have z2 := later_alloc w2 (.cells #[.int .u64 s, .int .u64 u] 24)
              have b3 := (b2.later ⟨j2⟩).later z2
              have x3 := LabBox.new w2 s u 24
              have hB3 := below_more (below_more hB2 j2 (Nat.le_refl _)) z2.b (Nat.le_refl _)
              have e0b := b3.c0
              have e1b := b3.c1
              have e2b := b3.f0
              have e3b := b3.f1
              clear j2 cR b2 hB2 z2

              go_wp2_with fail
              refine bodyPost_ret (v := .tuple #[.agg #[.int .u64 0, .int .u64 0], .bool false]) ?_ rfl ⟨?_, ?_⟩
              · simp [results, Tryz.results8, go_sem, e0b, e1b]
              · have := HZ.out; obtain ⟨h1, h2⟩ := Prod.mk.inj this; obtain ⟨rfl, rfl⟩ := LabD.mk.inj h1; subst h2; rfl
              · repeat first | exact hB3 | refine below_sc7 ?_ (by omega) _ | refine Below.drew ?_
      · have hx : t[k]? ≠ some 32 := by
          rw [List.getElem?_eq_getElem hti]
          intro e
          have := Option.some.inj e
          rw [this] at hc
          exact h32 hc.symm
        have HN := Lib.hid (fun j (hj : j < k + 1) => (by
          rcases Nat.lt_or_ge j k with h | h
          · exact HA.out j h
          · obtain rfl : j = k := by omega
            exact hx : t[j]? ≠ some 32))
        clear hc hx HA
        go_wp2_with fail
        go_round
        case rel => exact ⟨k + 1, by omega, by go_num, HN.out⟩
        case measure => simp [intOf]; omega
    · obtain rfl : k = len := by omega
      have HZ := Lib.hid (HR.out.symm.trans (readD_none (by rw [HLEN.out]; exact HA.out)))
      go_wp2_with fail
      refine bodyPost_ret (v := .tuple #[.agg #[.int .u64 0, .int .u64 0], .bool false]) ?_ rfl ⟨?_, ?_⟩
      · simp [results, Tryz.results8, go_sem, d0, d1]
      · have := HZ.out; obtain ⟨h1, h2⟩ := Prod.mk.inj this; obtain ⟨rfl, rfl⟩ := LabD.mk.inj h1; subst h2; rfl
      · repeat first | exact hB1 | refine below_sc7 ?_ (by omega) _ | refine Below.drew ?_
end Go.Proofs.YtcodphddkkjocaaGreatDoor
