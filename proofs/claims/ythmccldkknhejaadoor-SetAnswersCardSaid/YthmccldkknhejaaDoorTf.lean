/- SetAnswers' walk. -/
import Derived.Test.YthmccldkknhejaaDoorTc
namespace Go.Proofs.YthmccldkknhejaaDoor
open Go.RowKit Go.Deep
set_option linter.unusedVariables false

set_option maxRecDepth 100000 in
set_option maxHeartbeats 4000000 in
theorem setAnswers_walk (A : Option Addr) (zs : List Int) (len cap a b : Nat) (c : Int) (ts : ByteArray) (hl : zs.length = len) (hcap : A = none → cap = 0) (ha : a < 18446744073709551616) (hb : b < 18446744073709551616) (w : World) (hI : Ints .i64 w.heap.size w A zs) (hG : Gnd w) :
    Calls Tryd.prog 3 #[.slice A len cap, .int .u64 a, .int .u64 b, .int .i64 c, .string ts] w fun e w' => e = .returned (.bool true) ∧ Below w.heap.size w w' := by
  have hA := alive_any w hG
  by_cases hbig : 200 < len
  · have hd : (200 : Int) < (len : Int) := by omega
    clear hl hbig
    go_enter Tryd.func3, Tryd.ntmps3
    go_wp2_with fail
    refine hA.mono ?_
    rintro e w1 ⟨rfl, hb⟩
    go_wp2_with fail
    go_ret
    exact ⟨rfl, hb⟩
  · have hm : len ≤ 200 := by omega
    have hd : ¬ ((200 : Int) < (len : Int)) := by omega
    clear hbig
    by_cases htb : 400 < ts.size
    · have hd2 : (400 : Int) < (ts.size : Int) := by omega
      clear hl htb
      go_enter Tryd.func3, Tryd.ntmps3
      go_wp2_with fail
      refine hA.mono ?_
      rintro e w1 ⟨rfl, hb⟩
      go_wp2_with fail
      go_ret
      exact ⟨rfl, hb⟩
    · have htm : ts.size ≤ 400 := by omega
      have hd2 : ¬ ((400 : Int) < (ts.size : Int)) := by omega
      clear htb
      obtain ⟨u, o, ho⟩ : ∃ u o, ofN zs = (u, o) := ⟨_, _, rfl⟩
      have cRead : ∃ v q, (∀ W, Gnd W → Calls Tryd.prog 13 #[.string ts] W fun e w' => e = .returned (.tuple #[.int .u64 (v : Nat), .bool q]) ∧ Below W.heap.size W w') ∧ (∀ W, Calls Tryd.prog 14 #[.string ts] W fun e w' => e = .returned (.tuple #[.int .u64 (v : Nat), .bool q]) ∧ Below W.heap.size W w') := by
        obtain ⟨t, rfl, hlen⟩ : ∃ t : List UInt8, strB t = ts ∧ t.length = ts.size := ⟨ts.data.toList, rfl, rfl⟩
        exact ⟨(readN t).1, (readN t).2, fun W hW => read_any t _ _ (by omega) rfl W hW, fun W => ref_read t _ _ (by omega) (by rw [read_same]) W⟩
      obtain ⟨v, q, cR, cR'⟩ := cRead
      obtain ⟨o1, h1⟩ : ∃ o1, hasN a c = o1 := ⟨_, rfl⟩
      obtain ⟨o2, h2⟩ : ∃ o2, within a b = o2 := ⟨_, rfl⟩
      obtain ⟨m, h3⟩ : ∃ m, minus a b = m := ⟨_, rfl⟩
      obtain ⟨ta, h4⟩ : ∃ ta, strB (textB a) = ta := ⟨_, rfl⟩
      have cH := has_any a c o1 ha h1
      have cH' := ref_has a c o1 ha h1
      have cW := within_any a b o2 ha hb h2
      have cW' := ref_within a b o2 ha hb h2
      have cM := minus_any a b m ha hb h3
      have cM' := ref_minus a b m ha hb h3
      have cS := show_any a ha
      rw [h4] at cS
      have cS' := ref_show a ta ha h4
      have cL := list_any a ha
      have cL' := ref_list a ha
      have hl64 := cats_length_le a
      generalize cats a = ls at *
      clear h1 h2 h3 h4
      have HO := Lib.hid ho
      have HL := Lib.hid hl
      clear ho hl
      go_enter Tryd.func3, Tryd.ntmps3
      go_wp2_with fail
      refine hA.mono ?_
      rintro e w1 ⟨rfl, hb1⟩
      have hI1 := hI.below hb1 (Nat.le_refl _)
      go_wp2_with fail
      refine (copyInts_any A zs cap len HL.out (by rw [HL.out]; exact hm) hcap w1 (hI1.more hb1.size)).mono ?_
      rintro e w2 ⟨A', c', rfl, hI', hb'⟩
      rw [HL.out]
      have hb2 := below_more hb1 hb' (Nat.le_refl _)
      have hI2 := hI.below hb2 (Nat.le_refl _)
      clear hI1 hb'
      go_wp2_with fail
      refine (of_any A' zs len c' _ u o HL.out (by omega) HO.out w2 hI').mono ?_
      rintro e w3 ⟨rfl, n3, rfl⟩
      have hb3 := below_drewN hb2 n3
      have hI3 := hI.below hb3 (Nat.le_refl _)
      go_wp2_with fail
      refine (ref_of A zs len cap _ u o HL.out (by omega) HO.out _ hI3).mono ?_
      rintro e _ ⟨rfl, rfl⟩
      have hI3' : Ints .i64 (w2.drewN n3).heap.size (w2.drewN n3) A' zs := hI'
      generalize w2.drewN n3 = w3 at *
      clear hI' hI2 hb1 hb2
      go_wp2_with fail
      refine (cR _ (hG.below hb3)).mono ?_
      rintro e w4 ⟨rfl, hb⟩
      have hb4 := below_more hb3 hb (Nat.le_refl _)
      have hI4' := hI3'.below hb (Nat.le_refl _)
      have hz4 := hb.size
      clear hb hb3 hI3
      go_wp2_with fail
      refine (cR' _).mono ?_
      rintro e w5 ⟨rfl, hb⟩
      have hb5 := below_more hb4 hb (Nat.le_refl _)
      have hI5' := hI4'.below hb hz4
      have hz5 := Nat.le_trans hz4 hb.size
      clear hb hb4 hI4' hz4 cR cR'
      go_wp2_with fail
      refine (cL _ (hG.below hb5)).mono ?_
      rintro e w6 ⟨l1, rfl, hown, hb⟩
      obtain ⟨A1, c1, rfl, hJ⟩ := ownsI_ints hown
      have hb6 := below_more hb5 hb (Nat.le_refl _)
      have hI6' := hI5'.below hb hz5
      have hz6 := Nat.le_trans hz5 hb.size
      clear hb hb5 hI5' hz5 hown
      go_wp2_with fail
      refine (cL' _).mono ?_
      rintro e w7 ⟨l2, rfl, hown, hb⟩
      obtain ⟨A2, c2, rfl, hJ2⟩ := ownsI_ints hown
      have hb7 := below_more hb6 hb (Nat.le_refl _)
      have hI7' := hI6'.below hb hz6
      have hz7 := Nat.le_trans hz6 hb.size
      have hJ1 := (hJ.below hb (Nat.le_refl _)).more hb.size
      clear hb hb6 hI6' hz6 hown hJ
      have cSame := sameInts_any A1 A2 (intsN ls) (intsN ls) c1 c2 _ w7 hJ1 hJ2 (by simp [intsN]; omega) (by simp [intsN]; omega)
      rw [show (intsN ls).length = ls.length by simp [intsN], beq_self_eq_true] at cSame
      go_wp2_with fail
      refine cSame.mono ?_
      rintro e w8 ⟨rfl, n8, rfl⟩
      have hb8 := below_drewN hb7 n8
      have hI8' : Ints .i64 w3.heap.size (w7.drewN n8) A' zs := hI7'
      have hz8 : w3.heap.size ≤ (w7.drewN n8).heap.size := hz7
      generalize w7.drewN n8 = w8 at *
      clear cSame hJ1 hJ2 hb7 hI7' hz7
      go_wp2_with fail
      refine (cH _).mono ?_
      rintro e _ ⟨rfl, rfl⟩
      go_wp2_with fail
      refine (cH' _).mono ?_
      rintro e _ ⟨rfl, rfl⟩
      go_wp2_with fail
      refine (cW _).mono ?_
      rintro e _ ⟨rfl, rfl⟩
      go_wp2_with fail
      refine (cW' _).mono ?_
      rintro e _ ⟨rfl, rfl⟩
      go_wp2_with fail
      refine (cM _).mono ?_
      rintro e _ ⟨rfl, rfl⟩
      go_wp2_with fail
      refine (cM' _).mono ?_
      rintro e _ ⟨rfl, rfl⟩
      go_wp2_with fail
      refine (cS _ (hG.below hb8)).mono ?_
      rintro e w9 ⟨rfl, hb⟩
      have hb9 := below_more hb8 hb (Nat.le_refl _)
      have hI9' := hI8'.below hb hz8
      have hz9 := Nat.le_trans hz8 hb.size
      clear hb hb8 hI8' hz8
      go_wp2_with fail
      refine (cS' _).mono ?_
      rintro e w10 ⟨rfl, hb⟩
      have hb10 := below_more hb9 hb (Nat.le_refl _)
      have hI10' := (hI9'.below hb hz9).more (Nat.le_trans hz9 hb.size)
      have hI10 := hI.below hb10 (Nat.le_refl _)
      clear hb hb9 hI9' hz9
      have cSame := sameInts_any A' A zs zs c' cap w10.heap.size w10 hI10' (hI10.more hb10.size) (by have := HL.out; omega) (by have := HL.out; omega)
      rw [HL.out, beq_self_eq_true] at cSame
      go_wp2_with fail
      refine cSame.mono ?_
      rintro e w11 ⟨rfl, n11, rfl⟩
      go_wp2_with fail
      go_ret
      exact ⟨rfl, below_drewN hb10 _⟩
end Go.Proofs.YthmccldkknhejaaDoor
