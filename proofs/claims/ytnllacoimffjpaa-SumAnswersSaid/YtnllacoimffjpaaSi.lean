/- The walk of the statement SumAnswers, over what layer 2's calls answer. -/
import Derived.Test.YtnllacoimffjpaaSe
import Derived.Test.YtnllacoimffjpaaSh
namespace Go.Proofs.Ytnllacoimffjpaa
open Go.RowKit Go.Deep

set_option maxHeartbeats 1000000 in
theorem sumAnswers_long (A A' : Option Addr) (l l' c c' : Nat) (n : Int) (m : l ≤ 9223372036854775807) (m' : l' ≤ 9223372036854775807) (h : 1000 < l ∨ (l ≤ 1000 ∧ 1000 < l')) (w : World) (hA : Hid (Alive w)) :
    Calls Try.prog 3 #[.slice A l c, .slice A' l' c', .int .i64 n] w fun e w' => e = .returned (.bool true) ∧ Below w.heap.size w w' := by
  rcases h with h | ⟨h1, h2⟩
  all_goals
    go_enter Try.func3, Try.ntmps3
    go_wp2_with fail
    refine Calls.mono hA.out ?_
    clear hA
    rintro e w1 ⟨rfl, hb⟩
    go_wp2
    go_ret
    exact ⟨rfl, hb⟩

/-- Three slices that go on reading as they do. -/
structure Has (w : World) (A : Option Addr) (c : Nat) (zs : List Int) (A' : Option Addr) (c' : Nat) (ts : List Int) (A1 : Option Addr) (c1 : Nat) (w' : World) : Prop where
  b : Below w.heap.size w w'
  z : Good A c zs w'
  t : Good A' c' ts w'
  o : Good A1 c1 zs w'
theorem Has.below {w : World} {A : Option Addr} {c : Nat} {zs : List Int} {A' : Option Addr} {c' : Nat} {ts : List Int} {A1 : Option Addr} {c1 : Nat} {W W' : World} (h : Has w A c zs A' c' ts A1 c1 W) (hb : Below W.heap.size W W') : Has w A c zs A' c' ts A1 c1 W' := ⟨below_more h.b hb (Nat.le_refl _), h.z.below hb, h.t.below hb, h.o.below hb⟩

set_option maxHeartbeats 2000000 in
theorem sumAnswers_in (S : SumOK) (A A' : Option Addr) (zs ts : List Int) (l l' c c' : Nat) (n : Int) (n1 : -9223372036854775808 ≤ n) (n2 : n ≤ 9223372036854775807) (hll : zs.length = l) (hll' : ts.length = l') (hz : isBytes zs) (ht : isBytes ts) (h1 : l ≤ 1000) (h2 : l' ≤ 1000) (w : World) (g : Good A c zs w) (g' : Good A' c' ts w) (hA : Hid (Alive w)) :
    Calls Try.prog 3 #[.slice A l c, .slice A' l' c', .int .i64 n] w fun e w' => e = .returned (.bool true) ∧ Below w.heap.size w w' := by
  obtain ⟨q, hq⟩ : ∃ q, sumB zs = q := ⟨_, rfl⟩
  obtain ⟨p, hp⟩ : ∃ p, crc (low24 n) (bytesOf zs) = p := ⟨_, rfl⟩
  obtain ⟨o, ho⟩ : ∃ o, openOK zs = o := ⟨_, rfl⟩
  obtain ⟨xs, hx⟩ : ∃ xs, openL zs = xs := ⟨_, rfl⟩
  obtain ⟨lx, hlx⟩ : ∃ lx, xs.length = lx := ⟨_, rfl⟩
  obtain ⟨f, hf⟩ : ∃ f, (threeL (sumB zs) == ts) = f := ⟨_, rfl⟩
  have hlx2 : lx ≤ l := by rw [← hlx, ← hx, ← hll]; exact openL_length zs
  have hql : q < 16777216 := by rw [← hq]; exact sumB_lt hz
  have hf2 := hf
  rw [hq] at hf2
  have hsl : (sealL zs).length = l + 3 := by rw [sealL_length, hll]
  have c1 := Lib.hid (fun W => copyB A zs c l hll (by omega) W)
  have c2 := Lib.hid (fun A1 c1 W => S.opens A1 zs xs c1 l o hll hz (by omega) ho hx W)
  have c3 := Lib.hid (fun W => refOpen A zs xs c l o hll hz (by omega) ho hx W)
  have c4 := Lib.hid (fun A1 c1 W => S.sum A1 zs c1 l q hll hz (by omega) hq W)
  have c5 := Lib.hid (fun W => refSum A zs c l q hll hz (by omega) hq W)
  have c6 := Lib.hid (fun A1 c1 W => S.more n A1 zs c1 l p n1 n2 hll hz (by omega) hp W)
  have c7 := Lib.hid (fun W => refMore A zs c l p n hll hz (by omega) hp W)
  have c8 := Lib.hid (fun W => S.three n _ n1 n2 rfl W)
  have c9 := Lib.hid (fun W => refThree n _ rfl W)
  have c10 := Lib.hid (fun A1 A2 c1 c2 W => sameB A1 A2 (threeL (low24 n)) (threeL (low24 n)) c1 c2 3 3 true rfl rfl (by omega) (by omega) (by simp) W)
  have c11 := Lib.hid (fun A1 c1 W => S.fits A1 A' zs ts c1 c' l l' f hll hll' hz ht (by omega) (by omega) hf W)
  have c12 := Lib.hid (fun W => refThree q (threeL q) (by rw [low24_of q hql]) W)
  have c13 := Lib.hid (fun A1 c1 W => sameB A1 A' (threeL q) ts c1 c' 3 l' f rfl hll' (by omega) (by omega) hf2 W)
  have c14 := Lib.hid (fun A1 c1 W => S.seals A1 zs _ c1 l hll hz (by omega) rfl W)
  have c15 := Lib.hid (fun W => refSeal A zs _ c l hll hz (by omega) rfl W)
  have c16 := Lib.hid (fun A1 A2 c1 c2 W => sameB A1 A2 (sealL zs) (sealL zs) c1 c2 (l + 3) (l + 3) true hsl hsl (by omega) (by omega) (by simp) W)
  have c17 := Lib.hid (fun A1 A2 c1 c2 W => sameB A1 A2 xs xs c1 c2 lx lx true hlx hlx (by omega) (by omega) (by simp) W)
  have c18 := Lib.hid (fun A1 c1 W => sameB A1 A zs zs c1 c l l true hll hll (by omega) (by omega) (by simp) W)
  have i1 : ((q : Int) == (q : Int)) = true := by simp
  have i2 : ((p : Int) == (p : Int)) = true := by simp
  have i3 : (f == f) = true := by simp
  have i4 : (o == o) = true := by simp
  clear S hz ht hq hp ho hx hf hf2 hll'
  go_enter Try.func3, Try.ntmps3
  go_wp2_with fail
  refine Calls.mono hA.out ?_
  clear hA
  rintro e w1 ⟨rfl, b1⟩
  have g1 := g.below b1
  have g1' := g'.below b1
  clear g g'
  go_wp2_with fail
  refine (c1.out w1 g1).mono ?_
  rintro e w2 ⟨v2, rfl, o2, k2⟩
  obtain ⟨A2, k2', rfl, g2⟩ := o2.good
  have H2 : Has w A c zs A' c' ts A2 k2' w2 := ⟨below_more b1 k2 (Nat.le_refl _), g1.below k2, g1'.below k2, g2⟩
  clear g1 g1' b1 o2 k2 g2 c1
  rw [hll]
  clear hll
  go_wp2_with fail
  refine (c2.out A2 k2' w2 H2.o).mono ?_
  rintro e w3 ⟨A3, k3', rfl, g3, k3⟩
  have H3 := H2.below k3
  clear H2 k3 c2
  rw [hlx]
  go_wp2_with fail
  refine (c3.out w3 H3.z).mono ?_
  rintro e w4 ⟨A4, k4', rfl, g4, k4⟩
  have H4 := H3.below k4
  have gx4 := g3.below k4
  clear H3 k4 g3 c3
  rw [hlx]
  go_wp2_with fail
  refine (c4.out A2 k2' w4 H4.o).mono ?_
  rintro e w5 ⟨rfl, k5⟩
  have H5 := H4.below k5
  have gx5 := gx4.below k5
  have gy5 := g4.below k5
  clear H4 k5 gx4 g4 c4
  go_wp2_with fail
  refine (c5.out w5 H5.z).mono ?_
  rintro e w' ⟨rfl, rfl⟩
  go_wp2_with fail
  refine (c6.out A2 k2' w5 H5.o).mono ?_
  rintro e w6 ⟨rfl, k6⟩
  have H6 := H5.below k6
  have gx6 := gx5.below k6
  have gy6 := gy5.below k6
  clear H5 k6 gx5 gy5 c6
  go_wp2_with fail
  refine (c7.out w6 H6.z).mono ?_
  rintro e w' ⟨rfl, rfl⟩
  clear c7
  go_wp2_with fail
  refine (c8.out w6).mono ?_
  rintro e w7 ⟨v7, rfl, o7, k7⟩
  obtain ⟨A7, k7', rfl, g7⟩ := o7.good
  have H7 := H6.below k7
  have gx7 := gx6.below k7
  have gy7 := gy6.below k7
  clear H6 k7 gx6 gy6 c8 o7
  go_wp2_with fail
  refine (c9.out w7).mono ?_
  rintro e w8 ⟨v8, rfl, o8, k8⟩
  obtain ⟨A8, k8', rfl, g8⟩ := o8.good
  have H8 := H7.below k8
  have gx8 := gx7.below k8
  have gy8 := gy7.below k8
  have g7' := g7.below k8
  clear H7 k8 gx7 gy7 c9 o8 g7
  go_wp2_with fail
  refine (c10.out A7 A8 k7' k8' w8 g7' g8).mono ?_
  rintro e w9 ⟨rfl, k9⟩
  have H9 := H8.below k9
  have gx9 := gx8.below k9
  have gy9 := gy8.below k9
  clear H8 k9 gx8 gy8 c10 g7' g8
  go_wp2_with fail
  refine (c11.out A2 k2' w9 H9.o H9.t).mono ?_
  rintro e w10 ⟨rfl, k10⟩
  have H10 := H9.below k10
  have gx10 := gx9.below k10
  have gy10 := gy9.below k10
  clear H9 k10 gx9 gy9 c11
  go_wp2_with fail
  refine (c5.out w10 H10.z).mono ?_
  rintro e w' ⟨rfl, rfl⟩
  clear c5
  go_wp2_with fail
  refine (c12.out w10).mono ?_
  rintro e w11 ⟨v11, rfl, o11, k11⟩
  obtain ⟨A11, k11', rfl, g11⟩ := o11.good
  have H11 := H10.below k11
  have gx11 := gx10.below k11
  have gy11 := gy10.below k11
  clear H10 k11 gx10 gy10 c12 o11
  go_wp2_with fail
  refine (c13.out A11 k11' w11 g11 H11.t).mono ?_
  rintro e w12 ⟨rfl, k12⟩
  have H12 := H11.below k12
  have gx12 := gx11.below k12
  have gy12 := gy11.below k12
  clear H11 k12 gx11 gy11 c13 g11
  go_wp2_with fail
  refine (c14.out A2 k2' w12 H12.o).mono ?_
  rintro e w13 ⟨v13, rfl, o13, k13⟩
  obtain ⟨A13, k13', rfl, g13⟩ := o13.good
  have H13 := H12.below k13
  have gx13 := gx12.below k13
  have gy13 := gy12.below k13
  clear H12 k13 gx12 gy12 c14 o13
  rw [hsl]
  go_wp2_with fail
  refine (c15.out w13 H13.z).mono ?_
  rintro e w14 ⟨v14, rfl, o14, k14⟩
  obtain ⟨A14, k14', rfl, g14⟩ := o14.good
  have H14 := H13.below k14
  have gx14 := gx13.below k14
  have gy14 := gy13.below k14
  have g13' := g13.below k14
  clear H13 k14 gx13 gy13 c15 o14 g13
  rw [hsl]
  go_wp2_with fail
  refine (c16.out A13 A14 k13' k14' w14 g13' g14).mono ?_
  rintro e w15 ⟨rfl, k15⟩
  have H15 := H14.below k15
  have gx15 := gx14.below k15
  have gy15 := gy14.below k15
  clear H14 k15 gx14 gy14 c16 g13' g14
  go_wp2_with fail
  refine (c17.out A3 A4 k3' k4' w15 gx15 gy15).mono ?_
  rintro e w16 ⟨rfl, k16⟩
  have H16 := H15.below k16
  clear H15 k16 gx15 gy15 c17
  go_wp2_with fail
  refine (c18.out A2 k2' w16 H16.o H16.z).mono ?_
  rintro e w17 ⟨rfl, k17⟩
  have H17 := (H16.below k17).b
  clear H16 k17 c18
  go_wp2
  go_ret
  exact ⟨rfl, H17⟩

theorem sumAnswers_any (S : SumOK) (hA : ∀ w, Alive w) (A A' : Option Addr) (zs ts : List Int) (l l' c c' : Nat) (n : Int) (n1 : -9223372036854775808 ≤ n) (n2 : n ≤ 9223372036854775807) (hll : zs.length = l) (hll' : ts.length = l') (m : l ≤ 9223372036854775807) (m' : l' ≤ 9223372036854775807) (hz : isBytes zs) (ht : isBytes ts) (w : World) (g : Good A c zs w) (g' : Good A' c' ts w) :
    Calls Try.prog 3 #[.slice A l c, .slice A' l' c', .int .i64 n] w fun e w' => e = .returned (.bool true) ∧ Below w.heap.size w w' := by
  by_cases h : l ≤ 1000 ∧ l' ≤ 1000
  · exact sumAnswers_in S A A' zs ts l l' c c' n n1 n2 hll hll' hz ht h.1 h.2 w g g' (Lib.hid (hA w))
  · exact sumAnswers_long A A' l l' c c' n m m' (by omega) w (Lib.hid (hA w))
end Go.Proofs.Ytnllacoimffjpaa
