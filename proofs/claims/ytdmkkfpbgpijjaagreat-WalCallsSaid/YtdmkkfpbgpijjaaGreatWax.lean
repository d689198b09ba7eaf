/- The document's own Decode, at a record of kind 7 with a key, with the values [(False, True), (False, False)]. -/
import Derived.Test.YtdmkkfpbgpijjaaGreatWaq
namespace Go.Proofs.YtdmkkfpbgpijjaaGreat
open Go.RowKit Go.Deep
set_option linter.unusedVariables false

set_option maxRecDepth 100000 in
set_option maxHeartbeats 2000000 in
theorem refDec_7_ft (b off l c : Nat) (zs : List Int) (hl : zs.length = l) (h3 : 3 ≤ l) (hz : isBytes zs) (hk : ((fromN (zs.take 3) % 8 : Nat) : Int) + 1 = 7) (ho : fromN ((zs.drop 7).take 1) % 2 = 0) (hn : fromN ((zs.drop 7).take 1) / 2 % 2 = 1) (w : World) (g : Good (some ⟨b, off, none⟩) c zs w) :
    Calls Tryz.prog 64 #[.slice (some ⟨b, off, none⟩) l c] w (DecSays (decR zs) (decN zs) w) := by
  have hlc : l ≤ c := by have := g.2.1; omega
  obtain ⟨b', o', e', hbs, hcs⟩ := g.1 (by omega)
  cases e'
  have cA : ∀ j, j < l → ∀ o, (w.alloc o).cell? ⟨b, off + j, none⟩ = some (.int .u8 (zs[j]?.getD 0)) := fun j hj o => (World.cell?_alloc_lt w o ⟨b, off + j, none⟩ hbs).trans (hcs j (by omega))
  have x0 := cA 0 (by omega)
  have x1 := cA 1 (by omega)
  have x2 := cA 2 (by omega)
  rw [Nat.add_zero] at x0
  have hz0 := isBytes_at zs hz 0
  have hz1 := isBytes_at zs hz 1
  have hz2 := isBytes_at zs hz 2
  obtain ⟨h, hh⟩ : ∃ h, fromN (zs.take 3) = h := ⟨_, rfl⟩
  have hh3 : h < 16777216 := by rw [← hh]; exact fromN_k zs hz 3
  have hw : zs[0]?.getD 0 + 256 * zs[1]?.getD 0 + 65536 * zs[2]?.getD 0 = (h : Int) := by
    rw [← hh, take3 zs (by omega)]
    simp only [fromN]
    omega
  generalize zs[0]?.getD 0 = z0 at *
  generalize zs[1]?.getD 0 = z1 at *
  generalize zs[2]?.getD 0 = z2 at *
  obtain ⟨hz01, hz02⟩ := hz0
  obtain ⟨hz11, hz12⟩ := hz1
  obtain ⟨hz21, hz22⟩ := hz2
  obtain ⟨x, hx⟩ : ∃ x, h % 8 = x := ⟨_, rfl⟩
  obtain ⟨y, hy⟩ : ∃ y, h / 8 = y := ⟨_, rfl⟩
  obtain ⟨kI, hkI⟩ : ∃ kI : Int, (x : Int) + 1 = kI := ⟨_, rfl⟩
  have hkk : (h : Int) % 8 + 1 = kI := by omega
  have hy1 : (h : Int) / 8 = (y : Int) := by omega
  have HX := Lib.hid hx
  have HY := Lib.hid hy
  have HH := Lib.hid hh
  have HK := Lib.hid hkI
  have hk2 : ¬ (((fromN (zs.take 3) % 8 : Nat) : Int) + 1 = 2 ∨ ((fromN (zs.take 3) % 8 : Nat) : Int) + 1 = 8) := by omega
  have hk1 : ((fromN (zs.take 3) % 8 : Nat) : Int) + 1 = 1 ∨ ((fromN (zs.take 3) % 8 : Nat) : Int) + 1 = 7 := by omega
  obtain ⟨f, hf⟩ : ∃ f, fromN ((zs.drop 7).take 1) = f := ⟨_, rfl⟩
  have hf256 : f < 256 := by rw [← hf]; exact fromN_k (zs.drop 7) (hz.drop 7) 1
  rw [hf] at ho hn
  obtain ⟨k2, hk2e⟩ : ∃ k2, f / 32 + 1 = k2 := ⟨_, rfl⟩
  obtain ⟨N2, hN2⟩ : ∃ N2, 8 + k2 = N2 := ⟨_, rfl⟩
  obtain ⟨q2n, hq2n⟩ : ∃ q, fromN ((zs.drop 8).take k2) = q := ⟨_, rfl⟩
  obtain ⟨n2, hn2⟩ : ∃ n2, zagI q2n = n2 := ⟨_, rfl⟩
  have HN : Hid (lenN zs = N2) := Lib.hid (by
    simp only [lenN, if_neg hk2, if_pos hk1, hf, ho, hn]
    simp
    try omega)
  have HE : Hid (read24 zs = ⟨kI, y, 0, zs[3]?.getD 0, zs[4]?.getD 0, zs[5]?.getD 0, zs[6]?.getD 0, false, 0, true, n2⟩) := Lib.hid (by
    simp only [read24, if_neg hk2, if_pos hk1, hf, ho, hn]
    rw [hh, hx, hy, hkI]
    simp only [rdT, rdN, rdR]
    simp
    rw [← hn2, ← hq2n, ← hk2e]; congr 4; omega)
  rw [hh, hx, hkI] at hk
  clear hk2 hk1
  have q2 : (kI == 2) = false := by simp; omega
  have q8 : (kI == 8) = false := by simp; omega
  have q1 : (kI == 1) = false := by simp; omega
  have q7 : (kI == 7) = true := by simp; omega
  clear hk
  clear hx hy hh hkI
  go_enter Tryz.func64, Tryz.ntmps64
  go_wp2_with fail
  go_region
  have rb1 : RecBox (w.alloc (.cells #[.int .i64 0, .int .i64 0, .int .u16 0, .int .u8 0, .int .u8 0, .int .u8 0, .int .u8 0, .bool false, .int .i64 0, .bool false, .int .i64 0] 63)).drew w.heap.size zeroR := (recBox_new w zeroR).drew
  have kw1 : Below w.heap.size w (w.alloc (.cells #[.int .i64 0, .int .i64 0, .int .u16 0, .int .u8 0, .int .u8 0, .int .u8 0, .int .u8 0, .bool false, .int .i64 0, .bool false, .int .i64 0] 63)).drew := ((Below.refl _ w).alloc (Nat.le_refl _) _).drew
  have G1 := g.below kw1
  have hs1 : w.heap.size < (w.alloc (.cells #[.int .i64 0, .int .i64 0, .int .u16 0, .int .u8 0, .int .u8 0, .int .u8 0, .int .u8 0, .bool false, .int .i64 0, .bool false, .int .i64 0] 63)).drew.heap.size := rb1.at_.lt
  clear x0 x1 x2 cA hcs hw hz01 hz02 hz11 hz12 hz21 hz22
  generalize (w.alloc (.cells #[.int .i64 0, .int .i64 0, .int .u16 0, .int .u8 0, .int .u8 0, .int .u8 0, .int .u8 0, .bool false, .int .i64 0, .bool false, .int .i64 0] 63)).drew = w1 at *
  by_cases h5 : l < 8
  · have DZ := Lib.hid (ref_short zs hz (.inr (by rw [HN.out]; omega)))
    have h5d : decide ((l : Int) < 8) = true := by simp; omega
    have rb4 := rb1
    have kw4 := kw1
    have kwm : w.heap.size ≤ w1.heap.size := by omega
    obtain ⟨nc0, nf0, nc1, nf1, nc2, nf2, nc3, nf3, nc4, nf4, nc5, nf5, nc6, nf6, nc7, nf7, nc8, nf8, nc9, nf9, nc10, nf10⟩ := boxC 0 0 0 0 0 0 0 false 0 false 0 rb4
    go_wp2
    refine bodyPost_ret (v := .tuple #[.agg #[.int .i64 0, .int .i64 0, .int .u16 0, .int .u8 0, .int .u8 0, .int .u8 0, .int .u8 0, .bool false, .int .i64 0, .bool false, .int .i64 0], .int .i64 0]) ?_ rfl ⟨by rw [DZ.out.1, DZ.out.2]; rfl, ?_⟩
    · simp [results, Tryz.results64, go_sem, World.cell?_alloc_lt, hs1, nc0, nc1, nc2, nc3, nc4, nc5, nc6, nc7, nc8, nc9, nc10]
    · repeat first | with_reducible exact kw4 | with_reducible refine below_sc ?_ (Nat.le_refl _) _ | with_reducible refine Below.drew ?_ | with_reducible refine Below.alloc ?_ (by simp only [World.size_setCell]; exact kwm) _
  have h5d : decide ((l : Int) < 8) = false := by simp; omega
  have c3 : w1.cell? ⟨b, off + 3, none⟩ = some (.int .u8 (zs[3]?.getD 0)) := good_at G1 3 (by omega)
  have c4 : w1.cell? ⟨b, off + 4, none⟩ = some (.int .u8 (zs[4]?.getD 0)) := good_at G1 4 (by omega)
  have c5 : w1.cell? ⟨b, off + 5, none⟩ = some (.int .u8 (zs[5]?.getD 0)) := good_at G1 5 (by omega)
  have c6 : w1.cell? ⟨b, off + 6, none⟩ = some (.int .u8 (zs[6]?.getD 0)) := good_at G1 6 (by omega)
  have hz7 := isBytes_at zs hz 7
  have hf7 : zs[7]?.getD 0 = (f : Int) := by
    rw [← hf, take71 zs (by omega)]
    simp only [fromN]
    omega
  have hb1 : b < w1.heap.size := by omega
  clear hf hz7
  generalize zs[3]?.getD 0 = z3 at *
  generalize zs[4]?.getD 0 = z4 at *
  generalize zs[5]?.getD 0 = z5 at *
  generalize zs[6]?.getD 0 = z6 at *
  go_wp2_with fail
  go_region
  clear c3 c4 c5 c6
  have rm2 : RecBox ((w1.alloc (.cells #[.int .i64 kI, .int .i64 y, .int .u16 0, .int .u8 z3, .int .u8 z4, .int .u8 z5, .int .u8 z6, .bool false, .int .i64 0, .bool false, .int .i64 0] 63)).drew) w1.heap.size ⟨kI, y, 0, z3, z4, z5, z6, false, 0, false, 0⟩ := (recBox_new w1 ⟨kI, y, 0, z3, z4, z5, z6, false, 0, false, 0⟩).drew
  have ka2 : Below w1.heap.size w1 ((w1.alloc (.cells #[.int .i64 kI, .int .i64 y, .int .u16 0, .int .u8 z3, .int .u8 z4, .int .u8 z5, .int .u8 z6, .bool false, .int .i64 0, .bool false, .int .i64 0] 63)).drew) := ((Below.refl _ _).alloc (Nat.le_refl _) _).drew
  have rb2 := rb1.below ka2 hs1
  have kw2 := below_more kw1 ka2 (Nat.le_refl _)
  have G2 := G1.below ka2
  have hs2 : w.heap.size < ((w1.alloc (.cells #[.int .i64 kI, .int .i64 y, .int .u16 0, .int .u8 z3, .int .u8 z4, .int .u8 z5, .int .u8 z6, .bool false, .int .i64 0, .bool false, .int .i64 0] 63)).drew).heap.size := rb2.at_.lt
  have hm2 : w1.heap.size < ((w1.alloc (.cells #[.int .i64 kI, .int .i64 y, .int .u16 0, .int .u8 z3, .int .u8 z4, .int .u8 z5, .int .u8 z6, .bool false, .int .i64 0, .bool false, .int .i64 0] 63)).drew).heap.size := rm2.at_.lt
  generalize hww : ((w1.alloc (.cells #[.int .i64 kI, .int .i64 y, .int .u16 0, .int .u8 z3, .int .u8 z4, .int .u8 z5, .int .u8 z6, .bool false, .int .i64 0, .bool false, .int .i64 0] 63)).drew) = w2 at *
  have hmw : w1.heap.size < w2.heap.size := hm2
  have hmn1 : w.heap.size ≠ w1.heap.size := by omega
  have hmn3 : w.heap.size ≤ w1.heap.size := by omega
  have hmn4 : b ≠ w1.heap.size := by omega
  clear hww rb1 kw1 G1 hs1 hb1 ka2 hmw h5d
  generalize w1.heap.size = m at *
  have c7 : w2.cell? ⟨b, off + 7, none⟩ = some (.int .u8 (f : Int)) := by rw [← hf7]; exact good_at G2 7 (by omega)
  clear hf7
  have fo : ((f : Int) % 2 == 1) = false := by simp; omega
  have fn : ((f : Int) / 2 % 2 == 1) = true := by simp; omega
  have fk2 : (f : Int) / 32 + 1 = (k2 : Int) := by omega
  have fn2 : (8 : Int) + (k2 : Int) = (N2 : Int) := by omega
  have hmn2 : m ≠ w.heap.size := hmn1.symm
  have rb0 := rb2
  have kw0 := kw2
  have hb0 : b < w.heap.size := hbs
  have rm0 := rm2
  obtain ⟨mc0, mf0, mc1, mf1, mc2, mf2, mc3, mf3, mc4, mf4, mc5, mf5, mc6, mf6, mc7, mf7, mc8, mf8, mc9, mf9, mc10, mf10⟩ := boxC kI y 0 z3 z4 z5 z6 false 0 false 0 rm0
  by_cases hsN2 : l < N2
  · have DZ := Lib.hid (ref_short zs hz (.inr (by rw [HN.out]; omega)))
    have hd1 : decide ((l : Int) < (N2 : Int)) = true := by simp; omega
    have hd2 : decide (l < N2) = true := by simp; omega
    have rb4 := rb0
    have kw4 := kw0
    obtain ⟨nc0, nf0, nc1, nf1, nc2, nf2, nc3, nf3, nc4, nf4, nc5, nf5, nc6, nf6, nc7, nf7, nc8, nf8, nc9, nf9, nc10, nf10⟩ := boxC 0 0 0 0 0 0 0 false 0 false 0 rb4
    go_wp2
    refine bodyPost_ret (v := .tuple #[.agg #[.int .i64 0, .int .i64 0, .int .u16 0, .int .u8 0, .int .u8 0, .int .u8 0, .int .u8 0, .bool false, .int .i64 0, .bool false, .int .i64 0], .int .i64 0]) ?_ rfl ⟨by rw [DZ.out.1, DZ.out.2]; rfl, ?_⟩
    · simp [results, Tryz.results64, go_sem, nc0, nc1, nc2, nc3, nc4, nc5, nc6, nc7, nc8, nc9, nc10]
    · repeat first | with_reducible exact kw4 | with_reducible refine below_sc ?_ (Nat.le_refl _) _ | with_reducible refine Below.drew ?_ | with_reducible refine below_sc ?_ hmn3 _
  have hdN2 : decide ((l : Int) < (N2 : Int)) = false := by simp; omega
  have hdN22 : decide (l < N2) = false := by simp; omega
  have FN : ∀ W, Good (some ⟨b, off, none⟩) c zs W → Calls Tryz.prog 74 #[.slice (some ⟨b, off, none⟩) l c, .int .i64 8, .int .i64 (k2 : Int)] W fun e w' => e = .returned (.int .i64 n2) ∧ W = w' := fun W hg => refNumber_any b off l c 8 k2 q2n n2 zs hl (by omega) (by omega) (by omega) (by omega) hz hq2n hn2 W hg
  go_wp2_with fail
  (with_reducible refine (FN _ G2).mono ?_)
  rintro e w9 ⟨rfl, rfl⟩
  clear FN
  have RM := box_new rm2 true n2
  have RB := (box_sc (box_sc rb2 m 9 (.bool true) hmn1) m 10 (.int .i64 n2) hmn1)
  have GG := (good_sc (good_sc G2 m 9 (.bool true) hmn4) m 10 (.int .i64 n2) hmn4)
  have KW := (below_sc (below_sc kw2 hmn3 (i := 9) (.bool true)) hmn3 (i := 10) (.int .i64 n2))
  clear rm2 rb2 G2 kw2 hs2 hm2
  have rm2 := RM
  have rb2 := RB
  have G2 := GG
  have kw2 := KW
  have hs2 := rb2.at_.lt
  have hm2 := rm2.at_.lt
  clear RM RB GG KW
  have HO : Hid (okR ⟨kI, y, 0, z3, z4, z5, z6, false, 0, true, n2⟩) := Lib.hid (by rw [← HE.out]; exact read24_ok zs hz)
  cases ho : rightB ⟨kI, y, 0, z3, z4, z5, z6, false, 0, true, n2⟩ with
  | false =>
    have DZ := Lib.hid (ref_other zs hz (by rw [HE.out, ho]; simp))
    have F2 : ∀ W, Calls Tryz.prog 66 #[.agg #[.int .i64 kI, .int .i64 y, .int .u16 0, .int .u8 z3, .int .u8 z4, .int .u8 z5, .int .u8 z6, .bool false, .int .i64 0, .bool true, .int .i64 n2]] W fun e w' => e = .returned (.tuple #[.slice none 0 0, .bool false]) ∧ Below W.heap.size W w' := fun W => refEnc_no ⟨kI, y, 0, z3, z4, z5, z6, false, 0, true, n2⟩ ho W
    go_wp2_with fail
    (with_reducible refine (F2 _).mono ?_)
    rintro e w4 ⟨rfl, k4⟩
    have rb4 := rb2.below k4 hs2
    have kw4 := below_more kw2 k4 (Nat.le_refl _)
    clear F2 rb2 rm2 kw2 k4 G2 hs2 hm2 rb0 rm0 kw0 mc0 mf0 mc1 mf1 mc2 mf2 mc3 mf3 mc4 mf4 mc5 mf5 mc6 mf6 mc7 mf7 mc8 mf8 mc9 mf9 mc10 mf10
    obtain ⟨nc0, nf0, nc1, nf1, nc2, nf2, nc3, nf3, nc4, nf4, nc5, nf5, nc6, nf6, nc7, nf7, nc8, nf8, nc9, nf9, nc10, nf10⟩ := boxC 0 0 0 0 0 0 0 false 0 false 0 rb4
    go_wp2
    refine bodyPost_ret (v := .tuple #[.agg #[.int .i64 0, .int .i64 0, .int .u16 0, .int .u8 0, .int .u8 0, .int .u8 0, .int .u8 0, .bool false, .int .i64 0, .bool false, .int .i64 0], .int .i64 0]) ?_ rfl ⟨by rw [DZ.out.1, DZ.out.2]; rfl, ?_⟩
    · simp [results, Tryz.results64, go_sem, nc0, nc1, nc2, nc3, nc4, nc5, nc6, nc7, nc8, nc9, nc10]
    · repeat first | with_reducible exact kw4 | with_reducible refine below_sc ?_ (Nat.le_refl _) _ | with_reducible refine Below.drew ?_
  | true =>
    obtain ⟨en, hen⟩ : ∃ en, (encL ⟨kI, y, 0, z3, z4, z5, z6, false, 0, true, n2⟩).length = en := ⟨_, rfl⟩
    have hb24 := encL_bd ⟨kI, y, 0, z3, z4, z5, z6, false, 0, true, n2⟩
    have F2 : ∀ W, Calls Tryz.prog 66 #[.agg #[.int .i64 kI, .int .i64 y, .int .u16 0, .int .u8 z3, .int .u8 z4, .int .u8 z5, .int .u8 z6, .bool false, .int .i64 0, .bool true, .int .i64 n2]] W fun e w' => ∃ A2 c2, e = .returned (.tuple #[.slice A2 en c2, .bool true]) ∧ Good A2 c2 (encL ⟨kI, y, 0, z3, z4, z5, z6, false, 0, true, n2⟩) w' ∧ Below W.heap.size W w' := fun W => by
      refine (refEnc_yes ⟨kI, y, 0, z3, z4, z5, z6, false, 0, true, n2⟩ ho HO.out W).mono ?_
      rintro e w' ⟨v, rfl, o, k⟩
      obtain ⟨A2, c2, rfl, g2⟩ := o.good
      exact ⟨A2, c2, by rw [hen], g2, k⟩
    have htl : (zs.take N2).length = N2 := by rw [List.length_take, hl]; omega
    have F3 : ∀ (o : Bool), (encL ⟨kI, y, 0, z3, z4, z5, z6, false, 0, true, n2⟩ == zs.take N2) = o → ∀ A2 c2 W, Good A2 c2 (encL ⟨kI, y, 0, z3, z4, z5, z6, false, 0, true, n2⟩) W → Good (some ⟨b, off, none⟩) c zs W → Calls Tryz.prog 25 #[.slice A2 en c2, .slice (some ⟨b, off, none⟩) N2 c] W fun e w' => e = .returned (.bool o) ∧ Below W.heap.size W w' := fun o hoo A2 c2 W g' g => sameB A2 (some ⟨b, off, none⟩) (encL ⟨kI, y, 0, z3, z4, z5, z6, false, 0, true, n2⟩) (zs.take N2) c2 c en N2 o hen htl (by omega) (by omega) hoo W g' (g.take N2)
    have DZ : (encL ⟨kI, y, 0, z3, z4, z5, z6, false, 0, true, n2⟩ == zs.take N2) = false → Hid (decR zs = zeroR ∧ decN zs = 0) := fun h => Lib.hid (ref_other zs hz (by rw [HE.out, HN.out]; intro h2; rw [h2.2] at h; simp at h))
    have DY : (encL ⟨kI, y, 0, z3, z4, z5, z6, false, 0, true, n2⟩ == zs.take N2) = true → Hid (decR zs = ⟨kI, y, 0, z3, z4, z5, z6, false, 0, true, n2⟩ ∧ decN zs = N2) := fun h => Lib.hid (by
      have h1 := ref_yes zs hz (by rw [HN.out, hl]; omega) (by rw [HE.out]; exact ho) (by rw [HE.out, HN.out]; simpa using h)
      rw [HE.out, HN.out] at h1
      exact h1)
    have hnc : N2 ≤ c := by omega
    clear HO HE HN hb24 htl ho hen
    generalize encL ⟨kI, y, 0, z3, z4, z5, z6, false, 0, true, n2⟩ = es at *
    go_wp2_with fail
    (with_reducible refine (F2 _).mono ?_)
    rintro e w3 ⟨A3, c3, rfl, g3, k3⟩
    have rb3 := rb2.below k3 hs2
    have rm3 := rm2.below k3 hm2
    have kw3 := below_more kw2 k3 (Nat.le_refl _)
    have G3 := G2.below k3
    have hs3 := rb3.at_.lt
    have hm3 := rm3.at_.lt
    clear F2 rb2 rm2 kw2 k3 G2 hs2 hm2 rb0 rm0 kw0 mc0 mf0 mc1 mf1 mc2 mf2 mc3 mf3 mc4 mf4 mc5 mf5 mc6 mf6 mc7 mf7 mc8 mf8 mc9 mf9 mc10 mf10
    cases hso : (es == zs.take N2) with
    | false =>
      have DZ := DZ hso
      have F3 := F3 _ hso _ _ _ g3 G3
      clear DY hso
      go_wp2_with fail
      (with_reducible refine F3.mono ?_)
      rintro e w4 ⟨rfl, k4⟩
      have rb4 := rb3.below k4 hs3
      have kw4 := below_more kw3 k4 (Nat.le_refl _)
      clear F3 rb3 rm3 kw3 k4 G3 g3 hs3 hm3
      obtain ⟨nc0, nf0, nc1, nf1, nc2, nf2, nc3, nf3, nc4, nf4, nc5, nf5, nc6, nf6, nc7, nf7, nc8, nf8, nc9, nf9, nc10, nf10⟩ := boxC 0 0 0 0 0 0 0 false 0 false 0 rb4
      go_wp2
      refine bodyPost_ret (v := .tuple #[.agg #[.int .i64 0, .int .i64 0, .int .u16 0, .int .u8 0, .int .u8 0, .int .u8 0, .int .u8 0, .bool false, .int .i64 0, .bool false, .int .i64 0], .int .i64 0]) ?_ rfl ⟨by rw [DZ.out.1, DZ.out.2]; rfl, ?_⟩
      · simp [results, Tryz.results64, go_sem, nc0, nc1, nc2, nc3, nc4, nc5, nc6, nc7, nc8, nc9, nc10]
      · repeat first | with_reducible exact kw4 | with_reducible refine below_sc ?_ (Nat.le_refl _) _ | with_reducible refine Below.drew ?_
    | true =>
      have DY := DY hso
      have F3 := F3 _ hso _ _ _ g3 G3
      clear DZ hso
      go_wp2_with fail
      (with_reducible refine F3.mono ?_)
      rintro e w4 ⟨rfl, k4⟩
      have rb4 := rb3.below k4 hs3
      have rm4 := rm3.below k4 hm3
      have kw4 := below_more kw3 k4 (Nat.le_refl _)
      clear F3 rb3 rm3 kw3 k4 G3 g3 hs3 hm3
      obtain ⟨nc0, nf0, nc1, nf1, nc2, nf2, nc3, nf3, nc4, nf4, nc5, nf5, nc6, nf6, nc7, nf7, nc8, nf8, nc9, nf9, nc10, nf10⟩ := boxC 0 0 0 0 0 0 0 false 0 false 0 rb4
      obtain ⟨mc0, mc1, mc2, mc3, mc4, mc5, mc6, mc7, mc8, mc9, mc10⟩ := boxD kI y 0 z3 z4 z5 z6 false 0 true n2 rm4
      go_wp2
      refine bodyPost_ret (v := .tuple #[.agg #[.int .i64 kI, .int .i64 y, .int .u16 0, .int .u8 z3, .int .u8 z4, .int .u8 z5, .int .u8 z6, .bool false, .int .i64 0, .bool true, .int .i64 n2], .int .i64 (N2 : Nat)]) ?_ rfl ⟨by rw [DY.out.1, DY.out.2]; rfl, ?_⟩
      · simp [results, Tryz.results64, go_sem, nc0, nc1, nc2, nc3, nc4, nc5, nc6, nc7, nc8, nc9, nc10]
      · repeat first | with_reducible exact kw4 | with_reducible refine below_sc ?_ (Nat.le_refl _) _ | with_reducible refine Below.drew ?_
set_option maxRecDepth 100000 in
set_option maxHeartbeats 2000000 in
theorem refDec_7_ff (b off l c : Nat) (zs : List Int) (hl : zs.length = l) (h3 : 3 ≤ l) (hz : isBytes zs) (hk : ((fromN (zs.take 3) % 8 : Nat) : Int) + 1 = 7) (ho : fromN ((zs.drop 7).take 1) % 2 = 0) (hn : fromN ((zs.drop 7).take 1) / 2 % 2 = 0) (w : World) (g : Good (some ⟨b, off, none⟩) c zs w) :
    Calls Tryz.prog 64 #[.slice (some ⟨b, off, none⟩) l c] w (DecSays (decR zs) (decN zs) w) := by
  have hlc : l ≤ c := by have := g.2.1; omega
  obtain ⟨b', o', e', hbs, hcs⟩ := g.1 (by omega)
  cases e'
  have cA : ∀ j, j < l → ∀ o, (w.alloc o).cell? ⟨b, off + j, none⟩ = some (.int .u8 (zs[j]?.getD 0)) := fun j hj o => (World.cell?_alloc_lt w o ⟨b, off + j, none⟩ hbs).trans (hcs j (by omega))
  have x0 := cA 0 (by omega)
  have x1 := cA 1 (by omega)
  have x2 := cA 2 (by omega)
  rw [Nat.add_zero] at x0
  have hz0 := isBytes_at zs hz 0
  have hz1 := isBytes_at zs hz 1
  have hz2 := isBytes_at zs hz 2
  obtain ⟨h, hh⟩ : ∃ h, fromN (zs.take 3) = h := ⟨_, rfl⟩
  have hh3 : h < 16777216 := by rw [← hh]; exact fromN_k zs hz 3
  have hw : zs[0]?.getD 0 + 256 * zs[1]?.getD 0 + 65536 * zs[2]?.getD 0 = (h : Int) := by
    rw [← hh, take3 zs (by omega)]
    simp only [fromN]
    omega
  generalize zs[0]?.getD 0 = z0 at *
  generalize zs[1]?.getD 0 = z1 at *
  generalize zs[2]?.getD 0 = z2 at *
  obtain ⟨hz01, hz02⟩ := hz0
  obtain ⟨hz11, hz12⟩ := hz1
  obtain ⟨hz21, hz22⟩ := hz2
  obtain ⟨x, hx⟩ : ∃ x, h % 8 = x := ⟨_, rfl⟩
  obtain ⟨y, hy⟩ : ∃ y, h / 8 = y := ⟨_, rfl⟩
  obtain ⟨kI, hkI⟩ : ∃ kI : Int, (x : Int) + 1 = kI := ⟨_, rfl⟩
  have hkk : (h : Int) % 8 + 1 = kI := by omega
  have hy1 : (h : Int) / 8 = (y : Int) := by omega
  have HX := Lib.hid hx
  have HY := Lib.hid hy
  have HH := Lib.hid hh
  have HK := Lib.hid hkI
  have hk2 : ¬ (((fromN (zs.take 3) % 8 : Nat) : Int) + 1 = 2 ∨ ((fromN (zs.take 3) % 8 : Nat) : Int) + 1 = 8) := by omega
  have hk1 : ((fromN (zs.take 3) % 8 : Nat) : Int) + 1 = 1 ∨ ((fromN (zs.take 3) % 8 : Nat) : Int) + 1 = 7 := by omega
  obtain ⟨f, hf⟩ : ∃ f, fromN ((zs.drop 7).take 1) = f := ⟨_, rfl⟩
  have hf256 : f < 256 := by rw [← hf]; exact fromN_k (zs.drop 7) (hz.drop 7) 1
  rw [hf] at ho hn
  have HN : Hid (lenN zs = 8) := Lib.hid (by
    simp only [lenN, if_neg hk2, if_pos hk1, hf, ho, hn]
    simp
    try omega)
  have HE : Hid (read24 zs = ⟨kI, y, 0, zs[3]?.getD 0, zs[4]?.getD 0, zs[5]?.getD 0, zs[6]?.getD 0, false, 0, false, 0⟩) := Lib.hid (by
    simp only [read24, if_neg hk2, if_pos hk1, hf, ho, hn]
    rw [hh, hx, hy, hkI]
    simp only [rdT, rdN, rdR]
    simp)
  rw [hh, hx, hkI] at hk
  clear hk2 hk1
  have q2 : (kI == 2) = false := by simp; omega
  have q8 : (kI == 8) = false := by simp; omega
  have q1 : (kI == 1) = false := by simp; omega
  have q7 : (kI == 7) = true := by simp; omega
  clear hk
  clear hx hy hh hkI
  go_enter Tryz.func64, Tryz.ntmps64
  go_wp2_with fail
  go_region
  have rb1 : RecBox (w.alloc (.cells #[.int .i64 0, .int .i64 0, .int .u16 0, .int .u8 0, .int .u8 0, .int .u8 0, .int .u8 0, .bool false, .int .i64 0, .bool false, .int .i64 0] 63)).drew w.heap.size zeroR := (recBox_new w zeroR).drew
  have kw1 : Below w.heap.size w (w.alloc (.cells #[.int .i64 0, .int .i64 0, .int .u16 0, .int .u8 0, .int .u8 0, .int .u8 0, .int .u8 0, .bool false, .int .i64 0, .bool false, .int .i64 0] 63)).drew := ((Below.refl _ w).alloc (Nat.le_refl _) _).drew
  have G1 := g.below kw1
  have hs1 : w.heap.size < (w.alloc (.cells #[.int .i64 0, .int .i64 0, .int .u16 0, .int .u8 0, .int .u8 0, .int .u8 0, .int .u8 0, .bool false, .int .i64 0, .bool false, .int .i64 0] 63)).drew.heap.size := rb1.at_.lt
  clear x0 x1 x2 cA hcs hw hz01 hz02 hz11 hz12 hz21 hz22
  generalize (w.alloc (.cells #[.int .i64 0, .int .i64 0, .int .u16 0, .int .u8 0, .int .u8 0, .int .u8 0, .int .u8 0, .bool false, .int .i64 0, .bool false, .int .i64 0] 63)).drew = w1 at *
  by_cases h5 : l < 8
  · have DZ := Lib.hid (ref_short zs hz (.inr (by rw [HN.out]; omega)))
    have h5d : decide ((l : Int) < 8) = true := by simp; omega
    have rb4 := rb1
    have kw4 := kw1
    have kwm : w.heap.size ≤ w1.heap.size := by omega
    obtain ⟨nc0, nf0, nc1, nf1, nc2, nf2, nc3, nf3, nc4, nf4, nc5, nf5, nc6, nf6, nc7, nf7, nc8, nf8, nc9, nf9, nc10, nf10⟩ := boxC 0 0 0 0 0 0 0 false 0 false 0 rb4
    go_wp2
    refine bodyPost_ret (v := .tuple #[.agg #[.int .i64 0, .int .i64 0, .int .u16 0, .int .u8 0, .int .u8 0, .int .u8 0, .int .u8 0, .bool false, .int .i64 0, .bool false, .int .i64 0], .int .i64 0]) ?_ rfl ⟨by rw [DZ.out.1, DZ.out.2]; rfl, ?_⟩
    · simp [results, Tryz.results64, go_sem, World.cell?_alloc_lt, hs1, nc0, nc1, nc2, nc3, nc4, nc5, nc6, nc7, nc8, nc9, nc10]
    · repeat first | with_reducible exact kw4 | with_reducible refine below_sc ?_ (Nat.le_refl _) _ | with_reducible refine Below.drew ?_ | with_reducible refine Below.alloc ?_ (by simp only [World.size_setCell]; exact kwm) _
  have h5d : decide ((l : Int) < 8) = false := by simp; omega
  have c3 : w1.cell? ⟨b, off + 3, none⟩ = some (.int .u8 (zs[3]?.getD 0)) := good_at G1 3 (by omega)
  have c4 : w1.cell? ⟨b, off + 4, none⟩ = some (.int .u8 (zs[4]?.getD 0)) := good_at G1 4 (by omega)
  have c5 : w1.cell? ⟨b, off + 5, none⟩ = some (.int .u8 (zs[5]?.getD 0)) := good_at G1 5 (by omega)
  have c6 : w1.cell? ⟨b, off + 6, none⟩ = some (.int .u8 (zs[6]?.getD 0)) := good_at G1 6 (by omega)
  have hz7 := isBytes_at zs hz 7
  have hf7 : zs[7]?.getD 0 = (f : Int) := by
    rw [← hf, take71 zs (by omega)]
    simp only [fromN]
    omega
  have hb1 : b < w1.heap.size := by omega
  clear hf hz7
  generalize zs[3]?.getD 0 = z3 at *
  generalize zs[4]?.getD 0 = z4 at *
  generalize zs[5]?.getD 0 = z5 at *
  generalize zs[6]?.getD 0 = z6 at *
  go_wp2_with fail
  go_region
  clear c3 c4 c5 c6
  have rm2 : RecBox ((w1.alloc (.cells #[.int .i64 kI, .int .i64 y, .int .u16 0, .int .u8 z3, .int .u8 z4, .int .u8 z5, .int .u8 z6, .bool false, .int .i64 0, .bool false, .int .i64 0] 63)).drew) w1.heap.size ⟨kI, y, 0, z3, z4, z5, z6, false, 0, false, 0⟩ := (recBox_new w1 ⟨kI, y, 0, z3, z4, z5, z6, false, 0, false, 0⟩).drew
  have ka2 : Below w1.heap.size w1 ((w1.alloc (.cells #[.int .i64 kI, .int .i64 y, .int .u16 0, .int .u8 z3, .int .u8 z4, .int .u8 z5, .int .u8 z6, .bool false, .int .i64 0, .bool false, .int .i64 0] 63)).drew) := ((Below.refl _ _).alloc (Nat.le_refl _) _).drew
  have rb2 := rb1.below ka2 hs1
  have kw2 := below_more kw1 ka2 (Nat.le_refl _)
  have G2 := G1.below ka2
  have hs2 : w.heap.size < ((w1.alloc (.cells #[.int .i64 kI, .int .i64 y, .int .u16 0, .int .u8 z3, .int .u8 z4, .int .u8 z5, .int .u8 z6, .bool false, .int .i64 0, .bool false, .int .i64 0] 63)).drew).heap.size := rb2.at_.lt
  have hm2 : w1.heap.size < ((w1.alloc (.cells #[.int .i64 kI, .int .i64 y, .int .u16 0, .int .u8 z3, .int .u8 z4, .int .u8 z5, .int .u8 z6, .bool false, .int .i64 0, .bool false, .int .i64 0] 63)).drew).heap.size := rm2.at_.lt
  generalize hww : ((w1.alloc (.cells #[.int .i64 kI, .int .i64 y, .int .u16 0, .int .u8 z3, .int .u8 z4, .int .u8 z5, .int .u8 z6, .bool false, .int .i64 0, .bool false, .int .i64 0] 63)).drew) = w2 at *
  have hmw : w1.heap.size < w2.heap.size := hm2
  have hmn1 : w.heap.size ≠ w1.heap.size := by omega
  have hmn3 : w.heap.size ≤ w1.heap.size := by omega
  have hmn4 : b ≠ w1.heap.size := by omega
  clear hww rb1 kw1 G1 hs1 hb1 ka2 hmw h5d
  generalize w1.heap.size = m at *
  have c7 : w2.cell? ⟨b, off + 7, none⟩ = some (.int .u8 (f : Int)) := by rw [← hf7]; exact good_at G2 7 (by omega)
  clear hf7
  have fo : ((f : Int) % 2 == 1) = false := by simp; omega
  have fn : ((f : Int) / 2 % 2 == 1) = false := by simp; omega
  have hmn2 : m ≠ w.heap.size := hmn1.symm
  have rb0 := rb2
  have kw0 := kw2
  have hb0 : b < w.heap.size := hbs
  have rm0 := rm2
  obtain ⟨mc0, mf0, mc1, mf1, mc2, mf2, mc3, mf3, mc4, mf4, mc5, mf5, mc6, mf6, mc7, mf7, mc8, mf8, mc9, mf9, mc10, mf10⟩ := boxC kI y 0 z3 z4 z5 z6 false 0 false 0 rm0
  have HO : Hid (okR ⟨kI, y, 0, z3, z4, z5, z6, false, 0, false, 0⟩) := Lib.hid (by rw [← HE.out]; exact read24_ok zs hz)
  cases ho : rightB ⟨kI, y, 0, z3, z4, z5, z6, false, 0, false, 0⟩ with
  | false =>
    have DZ := Lib.hid (ref_other zs hz (by rw [HE.out, ho]; simp))
    have F2 : ∀ W, Calls Tryz.prog 66 #[.agg #[.int .i64 kI, .int .i64 y, .int .u16 0, .int .u8 z3, .int .u8 z4, .int .u8 z5, .int .u8 z6, .bool false, .int .i64 0, .bool false, .int .i64 0]] W fun e w' => e = .returned (.tuple #[.slice none 0 0, .bool false]) ∧ Below W.heap.size W w' := fun W => refEnc_no ⟨kI, y, 0, z3, z4, z5, z6, false, 0, false, 0⟩ ho W
    go_wp2_with fail
    (with_reducible refine (F2 _).mono ?_)
    rintro e w4 ⟨rfl, k4⟩
    have rb4 := rb2.below k4 hs2
    have kw4 := below_more kw2 k4 (Nat.le_refl _)
    clear F2 rb2 rm2 kw2 k4 G2 hs2 hm2 rb0 rm0 kw0 mc0 mf0 mc1 mf1 mc2 mf2 mc3 mf3 mc4 mf4 mc5 mf5 mc6 mf6 mc7 mf7 mc8 mf8 mc9 mf9 mc10 mf10
    obtain ⟨nc0, nf0, nc1, nf1, nc2, nf2, nc3, nf3, nc4, nf4, nc5, nf5, nc6, nf6, nc7, nf7, nc8, nf8, nc9, nf9, nc10, nf10⟩ := boxC 0 0 0 0 0 0 0 false 0 false 0 rb4
    go_wp2
    refine bodyPost_ret (v := .tuple #[.agg #[.int .i64 0, .int .i64 0, .int .u16 0, .int .u8 0, .int .u8 0, .int .u8 0, .int .u8 0, .bool false, .int .i64 0, .bool false, .int .i64 0], .int .i64 0]) ?_ rfl ⟨by rw [DZ.out.1, DZ.out.2]; rfl, ?_⟩
    · simp [results, Tryz.results64, go_sem, nc0, nc1, nc2, nc3, nc4, nc5, nc6, nc7, nc8, nc9, nc10]
    · repeat first | with_reducible exact kw4 | with_reducible refine below_sc ?_ (Nat.le_refl _) _ | with_reducible refine Below.drew ?_
  | true =>
    obtain ⟨en, hen⟩ : ∃ en, (encL ⟨kI, y, 0, z3, z4, z5, z6, false, 0, false, 0⟩).length = en := ⟨_, rfl⟩
    have hb24 := encL_bd ⟨kI, y, 0, z3, z4, z5, z6, false, 0, false, 0⟩
    have F2 : ∀ W, Calls Tryz.prog 66 #[.agg #[.int .i64 kI, .int .i64 y, .int .u16 0, .int .u8 z3, .int .u8 z4, .int .u8 z5, .int .u8 z6, .bool false, .int .i64 0, .bool false, .int .i64 0]] W fun e w' => ∃ A2 c2, e = .returned (.tuple #[.slice A2 en c2, .bool true]) ∧ Good A2 c2 (encL ⟨kI, y, 0, z3, z4, z5, z6, false, 0, false, 0⟩) w' ∧ Below W.heap.size W w' := fun W => by
      refine (refEnc_yes ⟨kI, y, 0, z3, z4, z5, z6, false, 0, false, 0⟩ ho HO.out W).mono ?_
      rintro e w' ⟨v, rfl, o, k⟩
      obtain ⟨A2, c2, rfl, g2⟩ := o.good
      exact ⟨A2, c2, by rw [hen], g2, k⟩
    have htl : (zs.take 8).length = 8 := by rw [List.length_take, hl]; omega
    have F3 : ∀ (o : Bool), (encL ⟨kI, y, 0, z3, z4, z5, z6, false, 0, false, 0⟩ == zs.take 8) = o → ∀ A2 c2 W, Good A2 c2 (encL ⟨kI, y, 0, z3, z4, z5, z6, false, 0, false, 0⟩) W → Good (some ⟨b, off, none⟩) c zs W → Calls Tryz.prog 25 #[.slice A2 en c2, .slice (some ⟨b, off, none⟩) 8 c] W fun e w' => e = .returned (.bool o) ∧ Below W.heap.size W w' := fun o hoo A2 c2 W g' g => sameB A2 (some ⟨b, off, none⟩) (encL ⟨kI, y, 0, z3, z4, z5, z6, false, 0, false, 0⟩) (zs.take 8) c2 c en 8 o hen htl (by omega) (by omega) hoo W g' (g.take 8)
    have DZ : (encL ⟨kI, y, 0, z3, z4, z5, z6, false, 0, false, 0⟩ == zs.take 8) = false → Hid (decR zs = zeroR ∧ decN zs = 0) := fun h => Lib.hid (ref_other zs hz (by rw [HE.out, HN.out]; intro h2; rw [h2.2] at h; simp at h))
    have DY : (encL ⟨kI, y, 0, z3, z4, z5, z6, false, 0, false, 0⟩ == zs.take 8) = true → Hid (decR zs = ⟨kI, y, 0, z3, z4, z5, z6, false, 0, false, 0⟩ ∧ decN zs = 8) := fun h => Lib.hid (by
      have h1 := ref_yes zs hz (by rw [HN.out, hl]; omega) (by rw [HE.out]; exact ho) (by rw [HE.out, HN.out]; simpa using h)
      rw [HE.out, HN.out] at h1
      exact h1)
    have hnc : 8 ≤ c := by omega
    clear HO HE HN hb24 htl ho hen
    generalize encL ⟨kI, y, 0, z3, z4, z5, z6, false, 0, false, 0⟩ = es at *
    go_wp2_with fail
    (with_reducible refine (F2 _).mono ?_)
    rintro e w3 ⟨A3, c3, rfl, g3, k3⟩
    have rb3 := rb2.below k3 hs2
    have rm3 := rm2.below k3 hm2
    have kw3 := below_more kw2 k3 (Nat.le_refl _)
    have G3 := G2.below k3
    have hs3 := rb3.at_.lt
    have hm3 := rm3.at_.lt
    clear F2 rb2 rm2 kw2 k3 G2 hs2 hm2 rb0 rm0 kw0 mc0 mf0 mc1 mf1 mc2 mf2 mc3 mf3 mc4 mf4 mc5 mf5 mc6 mf6 mc7 mf7 mc8 mf8 mc9 mf9 mc10 mf10
    cases hso : (es == zs.take 8) with
    | false =>
      have DZ := DZ hso
      have F3 := F3 _ hso _ _ _ g3 G3
      clear DY hso
      go_wp2_with fail
      (with_reducible refine F3.mono ?_)
      rintro e w4 ⟨rfl, k4⟩
      have rb4 := rb3.below k4 hs3
      have kw4 := below_more kw3 k4 (Nat.le_refl _)
      clear F3 rb3 rm3 kw3 k4 G3 g3 hs3 hm3
      obtain ⟨nc0, nf0, nc1, nf1, nc2, nf2, nc3, nf3, nc4, nf4, nc5, nf5, nc6, nf6, nc7, nf7, nc8, nf8, nc9, nf9, nc10, nf10⟩ := boxC 0 0 0 0 0 0 0 false 0 false 0 rb4
      go_wp2
      refine bodyPost_ret (v := .tuple #[.agg #[.int .i64 0, .int .i64 0, .int .u16 0, .int .u8 0, .int .u8 0, .int .u8 0, .int .u8 0, .bool false, .int .i64 0, .bool false, .int .i64 0], .int .i64 0]) ?_ rfl ⟨by rw [DZ.out.1, DZ.out.2]; rfl, ?_⟩
      · simp [results, Tryz.results64, go_sem, nc0, nc1, nc2, nc3, nc4, nc5, nc6, nc7, nc8, nc9, nc10]
      · repeat first | with_reducible exact kw4 | with_reducible refine below_sc ?_ (Nat.le_refl _) _ | with_reducible refine Below.drew ?_
    | true =>
      have DY := DY hso
      have F3 := F3 _ hso _ _ _ g3 G3
      clear DZ hso
      go_wp2_with fail
      (with_reducible refine F3.mono ?_)
      rintro e w4 ⟨rfl, k4⟩
      have rb4 := rb3.below k4 hs3
      have rm4 := rm3.below k4 hm3
      have kw4 := below_more kw3 k4 (Nat.le_refl _)
      clear F3 rb3 rm3 kw3 k4 G3 g3 hs3 hm3
      obtain ⟨nc0, nf0, nc1, nf1, nc2, nf2, nc3, nf3, nc4, nf4, nc5, nf5, nc6, nf6, nc7, nf7, nc8, nf8, nc9, nf9, nc10, nf10⟩ := boxC 0 0 0 0 0 0 0 false 0 false 0 rb4
      obtain ⟨mc0, mc1, mc2, mc3, mc4, mc5, mc6, mc7, mc8, mc9, mc10⟩ := boxD kI y 0 z3 z4 z5 z6 false 0 false 0 rm4
      go_wp2
      refine bodyPost_ret (v := .tuple #[.agg #[.int .i64 kI, .int .i64 y, .int .u16 0, .int .u8 z3, .int .u8 z4, .int .u8 z5, .int .u8 z6, .bool false, .int .i64 0, .bool false, .int .i64 0], .int .i64 (8 : Nat)]) ?_ rfl ⟨by rw [DY.out.1, DY.out.2]; rfl, ?_⟩
      · simp [results, Tryz.results64, go_sem, nc0, nc1, nc2, nc3, nc4, nc5, nc6, nc7, nc8, nc9, nc10]
      · repeat first | with_reducible exact kw4 | with_reducible refine below_sc ?_ (Nat.le_refl _) _ | with_reducible refine Below.drew ?_
end Go.Proofs.YtdmkkfpbgpijjaaGreat
