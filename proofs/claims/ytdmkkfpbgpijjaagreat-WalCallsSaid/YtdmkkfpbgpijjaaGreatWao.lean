/- The document's own Encode, of the kinds that have a key. -/
import Derived.Test.YtdmkkfpbgpijjaaGreatWan
namespace Go.Proofs.YtdmkkfpbgpijjaaGreat
open Go.RowKit Go.Deep
set_option linter.unusedVariables false
set_option linter.unusedSimpArgs false

set_option maxRecDepth 100000 in
set_option maxHeartbeats 2000000 in
theorem refEnc_1_tt (r : RecD) (hr : rightB r = true) (ok : okR r) (h2 : (r.kind == 2) = false) (h8 : (r.kind == 8) = false) (n1 : (r.kind != 1) = false) (hk : r.kind = 1) (hoT : r.oT = true) (hnT : r.nT = true) (w : World) : Calls Tryz.prog 66 #[.agg #[.int .i64 r.kind, .int .i64 r.tx, .int .u16 r.mask, .int .u8 r.k0, .int .u8 r.k1, .int .u8 r.k2, .int .u8 r.k3, .bool r.oT, .int .i64 r.oN, .bool r.nT, .int .i64 r.nN]] w (EncSays r w) := by
  have hbd := right_bd r hr
  have hh := headN_lt r hr
  have hw : r.kind - 1 + 8 * r.tx = ((headN r : Nat) : Int) := by unfold headN; omega
  have c0 : ∀ W, Calls Tryz.prog 76 #[.agg #[.int .i64 r.kind, .int .i64 r.tx, .int .u16 r.mask, .int .u8 r.k0, .int .u8 r.k1, .int .u8 r.k2, .int .u8 r.k3, .bool r.oT, .int .i64 r.oN, .bool r.nT, .int .i64 r.nN]] W fun e w' => e = .returned (.bool true) ∧ Below W.heap.size W w' := fun W => refRight_any r true hr W
  have he : encL r = bytesL (headN r) 3 ++ [r.k0, r.k1, r.k2, r.k3] ++ [((1 + 2 * 1 + 4 * (nb (zigN r.oN) - 1) + 32 * (nb (zigN r.nN) - 1) : Nat) : Int)] ++ (valL true r.oN ++ valL true r.nN) := by
    have hfl : flagsN r = 1 + 2 * 1 + 4 * (nb (zigN r.oN) - 1) + 32 * (nb (zigN r.nN) - 1) := by simp [flagsN, hoT, hnT, bitN, less]
    rw [← hfl]
    simp [encL, tailL, hk, hoT, hnT]
  unfold EncSays
  rw [he]
  have HB := Lib.hid (recBox_new w r)
  obtain ⟨hbd1, hbd2, hbd3, hbd4⟩ := hbd
  have c1 := fun W => small_any r.oN ok.oN W
  have c2 := fun W => small_any r.nN ok.nN W
  have m1 := valL_le true r.oN
  have m2 := valL_le true r.nN
  have e1 : (valL true r.oN).length = nb (zigN r.oN) := valL_length _ _
  have e2 : (valL true r.nN).length = nb (zigN r.nN) := valL_length _ _
  have bd1 := nb_bd (zigN r.oN)
  have bd2 := nb_bd (zigN r.nN)
  have f1 : valL false r.oN = [] := rfl
  have f2 : valL false r.nN = [] := rfl
  rw [e1] at m1
  rw [e2] at m2
  generalize nb (zigN r.oN) = a1 at *
  generalize nb (zigN r.nN) = a2 at *
  generalize valL true r.oN = vo at *
  generalize valL true r.nN = vn at *
  try rw [f1]
  try rw [f2]
  have E1 := Lib.hid e1
  have E2 := Lib.hid e2
  clear e1 e2 f1 f2 hk
  obtain ⟨fl, hfl⟩ : ∃ fl, 1 + 2 * 1 + 4 * (a1 - 1) + 32 * (a2 - 1) = fl := ⟨_, rfl⟩
  have HFL := Lib.hid hfl
  have hfw : IntKind.u8.wrap (1 + 4 * ((a1 : Int) - 1) + (2 + 32 * ((a2 : Int) - 1))) = (fl : Int) := by rw [show (1 + 4 * ((a1 : Int) - 1) + (2 + 32 * ((a2 : Int) - 1))) = ((fl : Nat) : Int) by omega, u8wrap]; omega
  rw [hfl]
  have HOT := Lib.hid hoT
  have HNT := Lib.hid hnT
  clear hfl hoT hnT
  generalize headN r = h at *
  have b0 := head0 h
  have b1 := head1 h
  have b2 := head2 h hh
  rw [bytes_three h]
  generalize byteAt h 0 = y0 at *
  generalize byteAt h 1 = y1 at *
  generalize byteAt h 2 = y2 at *
  clear hr ok he
  go_enter Tryz.func66, Tryz.ntmps66
  go_wp2_with fail
  (with_reducible refine (c0 _).mono ?_)
  rintro e w1 ⟨rfl, k1⟩
  have rb1 : RecBox w1 w.heap.size r := HB.out.below k1 (by simp)
  have kw1 : Below w.heap.size w w1 := ((Below.refl _ w).alloc (Nat.le_refl _) _).trans (k1.mono (by simp))
  have hs1 := rb1.at_.lt
  clear HB k1 c0
  have q0 : w1.cell? ⟨w.heap.size, 0, none⟩ = some (.int .i64 r.kind) := rb1.at_.c0
  have q1 : w1.cell? ⟨w.heap.size, 1, none⟩ = some (.int .i64 r.tx) := rb1.at_.c1
  have q2 : w1.cell? ⟨w.heap.size, 2, none⟩ = some (.int .u16 r.mask) := rb1.at_.c2
  have q3 : w1.cell? ⟨w.heap.size, 3, none⟩ = some (.int .u8 r.k0) := rb1.at_.c3
  have q4 : w1.cell? ⟨w.heap.size, 4, none⟩ = some (.int .u8 r.k1) := rb1.at_.c4
  have q5 : w1.cell? ⟨w.heap.size, 5, none⟩ = some (.int .u8 r.k2) := rb1.at_.c5
  have q6 : w1.cell? ⟨w.heap.size, 6, none⟩ = some (.int .u8 r.k3) := rb1.at_.c6
  have q7 : w1.cell? ⟨w.heap.size, 7, none⟩ = some (.bool true) := by rw [← HOT.out]; exact rb1.at_.c7
  have q8 : w1.cell? ⟨w.heap.size, 8, none⟩ = some (.int .i64 r.oN) := rb1.at_.c8
  have q9 : w1.cell? ⟨w.heap.size, 9, none⟩ = some (.bool true) := by rw [← HNT.out]; exact rb1.at_.c9
  have q10 : w1.cell? ⟨w.heap.size, 10, none⟩ = some (.int .i64 r.nN) := rb1.at_.c10
  have o1 := owns_lit w1 [(y0 : Int), (y1 : Int), (y2 : Int)]
  have kx : Below w1.heap.size w1 (w1.alloc (.cells #[.int .u8 y0, .int .u8 y1, .int .u8 y2] 5)) := (Below.refl _ _).alloc (Nat.le_refl _) _
  have kx2 : Below (w1.alloc (.cells #[.int .u8 y0, .int .u8 y1, .int .u8 y2] 5)).heap.size (w1.alloc (.cells #[.int .u8 y0, .int .u8 y1, .int .u8 y2] 5)) ((w1.alloc (.cells #[.int .u8 y0, .int .u8 y1, .int .u8 y2] 5)).alloc (.cells #[.int .u8 r.k0, .int .u8 r.k1, .int .u8 r.k2, .int .u8 r.k3] 5)) := (Below.refl _ _).alloc (Nat.le_refl _) _
  have o2 := o1.below kx2
  have g2 := (owns_lit (w1.alloc (.cells #[.int .u8 y0, .int .u8 y1, .int .u8 y2] 5)) [r.k0, r.k1, r.k2, r.k3]).good
  obtain ⟨A2, d2, e2, g2⟩ := g2
  injection e2 with e3 e4 e5
  subst e3 e5
  rw [show (w1.alloc (.cells #[.int .u8 y0, .int .u8 y1, .int .u8 y2] 5)).heap.size = w1.heap.size + 1 by simp] at g2
  have kx3 := below_more kx kx2 (Nat.le_refl _)
  have TL := Lib.hid (fun W : World => owns_lit W [])
  clear e4
  go_wp2_with (at_builtin; refine wpList_appendBg rfl _ _ rfl w1.heap.size _ [(y0 : Int), (y1 : Int), (y2 : Int)] rfl o2 (some ⟨w1.heap.size + 1, 0, none⟩) [r.k0, r.k1, r.k2, r.k3] 4 4 rfl rfl (by omega) g2 (by simp) kx3.size w1 kx3 (fun e => by cases e) ?_; intro v3 w3 o3 n3 _ k3; have rb3 := rb1.below k3 hs1; have hs3 := rb3.at_.lt; obtain ⟨q0, q1, q2, q3, q4, q5, q6, q7', q8, q9', q10⟩ := rb3.at_; have q7 : w3.cell? ⟨w.heap.size, 7, none⟩ = some (.bool true) := (by rw [← HOT.out]; exact q7'); have q9 : w3.cell? ⟨w.heap.size, 9, none⟩ = some (.bool true) := (by rw [← HNT.out]; exact q9'); have t4 := TL.out w3; have kt4 : Below w3.heap.size w3 (w3.alloc (.cells #[] 5)) := (Below.refl _ _).alloc (Nat.le_refl _) _; clear q7' q9' q0 q1 q2 q3 q4 q5 q6 o2 g2 kx2 kx3 o1 kx)
  have Q8 := Lib.hid q8
  have Q9 := Lib.hid q9
  have Q10 := Lib.hid q10
  go_wp2_with fail
  (with_reducible refine (c1 _).mono ?_)
  rintro e w5 ⟨v5, rfl, s5, k5⟩
  obtain ⟨A5, d5, e5, g5⟩ := s5.good
  rw [E1.out] at e5
  subst e5
  have kt5 := below_more kt4 k5 (Nat.le_refl _)
  have t5 := t4.below k5
  clear q8 q9 q10
  have q8 : w5.cell? ⟨w.heap.size, 8, none⟩ = some (.int .i64 r.oN) := (kt5.cell (p := ⟨w.heap.size, 8, none⟩) hs3).trans Q8.out
  have q9 : w5.cell? ⟨w.heap.size, 9, none⟩ = some (.bool true) := (kt5.cell (p := ⟨w.heap.size, 9, none⟩) hs3).trans Q9.out
  have q10 : w5.cell? ⟨w.heap.size, 10, none⟩ = some (.int .i64 r.nN) := (kt5.cell (p := ⟨w.heap.size, 10, none⟩) hs3).trans Q10.out
  go_wp2_with (at_builtin; refine wpList_appendB rfl _ _ rfl w3.heap.size _ ([] : List Int) rfl t5 A5 vo a1 d5 rfl E1.out g5 (by rw [E1.out]; simp; omega) kt5.size w3 kt5 ?_; intro v6 w6 t6 kt6; clear q8 q9 q10; have q8 : w6.cell? ⟨w.heap.size, 8, none⟩ = some (.int .i64 r.oN) := (kt6.cell (p := ⟨w.heap.size, 8, none⟩) hs3).trans Q8.out; have q9 : w6.cell? ⟨w.heap.size, 9, none⟩ = some (.bool true) := (kt6.cell (p := ⟨w.heap.size, 9, none⟩) hs3).trans Q9.out; have q10 : w6.cell? ⟨w.heap.size, 10, none⟩ = some (.int .i64 r.nN) := (kt6.cell (p := ⟨w.heap.size, 10, none⟩) hs3).trans Q10.out)
  go_wp2_with fail
  (with_reducible refine (c2 _).mono ?_)
  rintro e w7 ⟨v7, rfl, s7, k7⟩
  obtain ⟨A7, d7, e7, g7⟩ := s7.good
  rw [E2.out] at e7
  subst e7
  have kt7 := below_more kt6 k7 (Nat.le_refl _)
  have t7 := t6.below k7
  clear q8 q9 q10
  have q8 : w7.cell? ⟨w.heap.size, 8, none⟩ = some (.int .i64 r.oN) := (kt7.cell (p := ⟨w.heap.size, 8, none⟩) hs3).trans Q8.out
  have q9 : w7.cell? ⟨w.heap.size, 9, none⟩ = some (.bool true) := (kt7.cell (p := ⟨w.heap.size, 9, none⟩) hs3).trans Q9.out
  have q10 : w7.cell? ⟨w.heap.size, 10, none⟩ = some (.int .i64 r.nN) := (kt7.cell (p := ⟨w.heap.size, 10, none⟩) hs3).trans Q10.out
  go_wp2_with (first | (at_builtin; refine wpList_appendB rfl _ _ rfl w3.heap.size _ (([] : List Int) ++ vo) rfl t7 A7 vn a2 d7 rfl E2.out g7 (by rw [E2.out]; rw [List.length_append, E1.out]; simp; omega) kt7.size w3 kt7 ?_; intro v8 w8 t8 kt8; clear q8 q9 q10; have q8 : w8.cell? ⟨w.heap.size, 8, none⟩ = some (.int .i64 r.oN) := (kt8.cell (p := ⟨w.heap.size, 8, none⟩) hs3).trans Q8.out; have q9 : w8.cell? ⟨w.heap.size, 9, none⟩ = some (.bool true) := (kt8.cell (p := ⟨w.heap.size, 9, none⟩) hs3).trans Q9.out; have q10 : w8.cell? ⟨w.heap.size, 10, none⟩ = some (.int .i64 r.nN) := (kt8.cell (p := ⟨w.heap.size, 10, none⟩) hs3).trans Q10.out; have kf : Below w8.heap.size w8 (w8.alloc (.cells #[.int .u8 (fl : Int)] 5)) := (Below.refl _ _).alloc (Nat.le_refl _) _; have kf3 := below_more kt8 kf (Nat.le_refl _); have o8 := o3.below kf3; have tf := t8.below kf; have gf := (owns_lit w8 [(fl : Int)]).good; obtain ⟨Af, df, ef, gf⟩ := gf; injection ef with ef1 ef2 ef3; subst ef1 ef3; have kf1 := below_more k3 kf3 (Nat.le_refl _); have N3 := Lib.hid n3; clear ef2 n3 kf kf3) | (at_builtin; refine wpList_appendBg rfl _ _ rfl w1.heap.size v3 ([(y0 : Int), (y1 : Int), (y2 : Int)] ++ [r.k0, r.k1, r.k2, r.k3]) rfl o8 (some ⟨w8.heap.size, 0, none⟩) [(fl : Int)] 1 1 rfl rfl (by omega) gf (by simp) kf1.size w1 kf1 N3.out ?_; intro v9 w9 o9 n9 gr k9; have t9 := tail_kept tf o3 (Nat.le_refl _) gr; clear gr n9; obtain ⟨A9, d9, e9, g9⟩ := t9.good; obtain ⟨l9, hl9⟩ : ∃ l, ((([] : List Int) ++ vo) ++ vn).length = l := ⟨_, rfl⟩; rw [hl9] at e9; subst e9; have L9 := Lib.hid hl9; have B9 : l9 ≤ 16 := (by rw [← hl9]; rw [List.length_append, List.length_append, E1.out, E2.out]; simp; omega); clear hl9) | (at_builtin; refine wpList_appendB rfl _ _ rfl w1.heap.size v9 (([(y0 : Int), (y1 : Int), (y2 : Int)] ++ [r.k0, r.k1, r.k2, r.k3]) ++ [(fl : Int)]) rfl o9 A9 ((([] : List Int) ++ vo) ++ vn) l9 d9 rfl L9.out g9 (by rw [L9.out]; simp; omega) k9.size w1 k9 ?_; intro v10 w10 o10 k10))
  go_ret2
  have o11 := o10.base kw1.size
  simp only [List.append_assoc, List.nil_append, List.append_nil, List.cons_append] at o11 ⊢
  exact ⟨v10, rfl, o11, below_more kw1 k10 (Nat.le_refl _)⟩
set_option maxRecDepth 100000 in
set_option maxHeartbeats 2000000 in
theorem refEnc_1_tf (r : RecD) (hr : rightB r = true) (ok : okR r) (h2 : (r.kind == 2) = false) (h8 : (r.kind == 8) = false) (n1 : (r.kind != 1) = false) (hk : r.kind = 1) (hoT : r.oT = true) (hnT : r.nT = false) (w : World) : Calls Tryz.prog 66 #[.agg #[.int .i64 r.kind, .int .i64 r.tx, .int .u16 r.mask, .int .u8 r.k0, .int .u8 r.k1, .int .u8 r.k2, .int .u8 r.k3, .bool r.oT, .int .i64 r.oN, .bool r.nT, .int .i64 r.nN]] w (EncSays r w) := by
  have hbd := right_bd r hr
  have hh := headN_lt r hr
  have hw : r.kind - 1 + 8 * r.tx = ((headN r : Nat) : Int) := by unfold headN; omega
  have c0 : ∀ W, Calls Tryz.prog 76 #[.agg #[.int .i64 r.kind, .int .i64 r.tx, .int .u16 r.mask, .int .u8 r.k0, .int .u8 r.k1, .int .u8 r.k2, .int .u8 r.k3, .bool r.oT, .int .i64 r.oN, .bool r.nT, .int .i64 r.nN]] W fun e w' => e = .returned (.bool true) ∧ Below W.heap.size W w' := fun W => refRight_any r true hr W
  have he : encL r = bytesL (headN r) 3 ++ [r.k0, r.k1, r.k2, r.k3] ++ [((1 + 4 * (nb (zigN r.oN) - 1) : Nat) : Int)] ++ (valL true r.oN ++ valL false r.nN) := by
    have hfl : flagsN r = 1 + 4 * (nb (zigN r.oN) - 1) := by simp [flagsN, hoT, hnT, bitN, less]
    rw [← hfl]
    simp [encL, tailL, hk, hoT, hnT]
  unfold EncSays
  rw [he]
  have HB := Lib.hid (recBox_new w r)
  obtain ⟨hbd1, hbd2, hbd3, hbd4⟩ := hbd
  have c1 := fun W => small_any r.oN ok.oN W
  have c2 := fun W => small_any r.nN ok.nN W
  have m1 := valL_le true r.oN
  have m2 := valL_le true r.nN
  have e1 : (valL true r.oN).length = nb (zigN r.oN) := valL_length _ _
  have e2 : (valL true r.nN).length = nb (zigN r.nN) := valL_length _ _
  have bd1 := nb_bd (zigN r.oN)
  have bd2 := nb_bd (zigN r.nN)
  have f1 : valL false r.oN = [] := rfl
  have f2 : valL false r.nN = [] := rfl
  rw [e1] at m1
  rw [e2] at m2
  generalize nb (zigN r.oN) = a1 at *
  generalize nb (zigN r.nN) = a2 at *
  generalize valL true r.oN = vo at *
  generalize valL true r.nN = vn at *
  try rw [f1]
  try rw [f2]
  have E1 := Lib.hid e1
  have E2 := Lib.hid e2
  clear e1 e2 f1 f2 hk
  obtain ⟨fl, hfl⟩ : ∃ fl, 1 + 4 * (a1 - 1) = fl := ⟨_, rfl⟩
  have HFL := Lib.hid hfl
  have hfw : IntKind.u8.wrap (1 + 4 * ((a1 : Int) - 1)) = (fl : Int) := by rw [show (1 + 4 * ((a1 : Int) - 1)) = ((fl : Nat) : Int) by omega, u8wrap]; omega
  rw [hfl]
  have HOT := Lib.hid hoT
  have HNT := Lib.hid hnT
  clear hfl hoT hnT
  generalize headN r = h at *
  have b0 := head0 h
  have b1 := head1 h
  have b2 := head2 h hh
  rw [bytes_three h]
  generalize byteAt h 0 = y0 at *
  generalize byteAt h 1 = y1 at *
  generalize byteAt h 2 = y2 at *
  clear hr ok he
  go_enter Tryz.func66, Tryz.ntmps66
  go_wp2_with fail
  (with_reducible refine (c0 _).mono ?_)
  rintro e w1 ⟨rfl, k1⟩
  have rb1 : RecBox w1 w.heap.size r := HB.out.below k1 (by simp)
  have kw1 : Below w.heap.size w w1 := ((Below.refl _ w).alloc (Nat.le_refl _) _).trans (k1.mono (by simp))
  have hs1 := rb1.at_.lt
  clear HB k1 c0
  have q0 : w1.cell? ⟨w.heap.size, 0, none⟩ = some (.int .i64 r.kind) := rb1.at_.c0
  have q1 : w1.cell? ⟨w.heap.size, 1, none⟩ = some (.int .i64 r.tx) := rb1.at_.c1
  have q2 : w1.cell? ⟨w.heap.size, 2, none⟩ = some (.int .u16 r.mask) := rb1.at_.c2
  have q3 : w1.cell? ⟨w.heap.size, 3, none⟩ = some (.int .u8 r.k0) := rb1.at_.c3
  have q4 : w1.cell? ⟨w.heap.size, 4, none⟩ = some (.int .u8 r.k1) := rb1.at_.c4
  have q5 : w1.cell? ⟨w.heap.size, 5, none⟩ = some (.int .u8 r.k2) := rb1.at_.c5
  have q6 : w1.cell? ⟨w.heap.size, 6, none⟩ = some (.int .u8 r.k3) := rb1.at_.c6
  have q7 : w1.cell? ⟨w.heap.size, 7, none⟩ = some (.bool true) := by rw [← HOT.out]; exact rb1.at_.c7
  have q8 : w1.cell? ⟨w.heap.size, 8, none⟩ = some (.int .i64 r.oN) := rb1.at_.c8
  have q9 : w1.cell? ⟨w.heap.size, 9, none⟩ = some (.bool false) := by rw [← HNT.out]; exact rb1.at_.c9
  have q10 : w1.cell? ⟨w.heap.size, 10, none⟩ = some (.int .i64 r.nN) := rb1.at_.c10
  have o1 := owns_lit w1 [(y0 : Int), (y1 : Int), (y2 : Int)]
  have kx : Below w1.heap.size w1 (w1.alloc (.cells #[.int .u8 y0, .int .u8 y1, .int .u8 y2] 5)) := (Below.refl _ _).alloc (Nat.le_refl _) _
  have kx2 : Below (w1.alloc (.cells #[.int .u8 y0, .int .u8 y1, .int .u8 y2] 5)).heap.size (w1.alloc (.cells #[.int .u8 y0, .int .u8 y1, .int .u8 y2] 5)) ((w1.alloc (.cells #[.int .u8 y0, .int .u8 y1, .int .u8 y2] 5)).alloc (.cells #[.int .u8 r.k0, .int .u8 r.k1, .int .u8 r.k2, .int .u8 r.k3] 5)) := (Below.refl _ _).alloc (Nat.le_refl _) _
  have o2 := o1.below kx2
  have g2 := (owns_lit (w1.alloc (.cells #[.int .u8 y0, .int .u8 y1, .int .u8 y2] 5)) [r.k0, r.k1, r.k2, r.k3]).good
  obtain ⟨A2, d2, e2, g2⟩ := g2
  injection e2 with e3 e4 e5
  subst e3 e5
  rw [show (w1.alloc (.cells #[.int .u8 y0, .int .u8 y1, .int .u8 y2] 5)).heap.size = w1.heap.size + 1 by simp] at g2
  have kx3 := below_more kx kx2 (Nat.le_refl _)
  have TL := Lib.hid (fun W : World => owns_lit W [])
  clear e4
  go_wp2_with (at_builtin; refine wpList_appendBg rfl _ _ rfl w1.heap.size _ [(y0 : Int), (y1 : Int), (y2 : Int)] rfl o2 (some ⟨w1.heap.size + 1, 0, none⟩) [r.k0, r.k1, r.k2, r.k3] 4 4 rfl rfl (by omega) g2 (by simp) kx3.size w1 kx3 (fun e => by cases e) ?_; intro v3 w3 o3 n3 _ k3; have rb3 := rb1.below k3 hs1; have hs3 := rb3.at_.lt; obtain ⟨q0, q1, q2, q3, q4, q5, q6, q7', q8, q9', q10⟩ := rb3.at_; have q7 : w3.cell? ⟨w.heap.size, 7, none⟩ = some (.bool true) := (by rw [← HOT.out]; exact q7'); have q9 : w3.cell? ⟨w.heap.size, 9, none⟩ = some (.bool false) := (by rw [← HNT.out]; exact q9'); have t4 := TL.out w3; have kt4 : Below w3.heap.size w3 (w3.alloc (.cells #[] 5)) := (Below.refl _ _).alloc (Nat.le_refl _) _; clear q7' q9' q0 q1 q2 q3 q4 q5 q6 o2 g2 kx2 kx3 o1 kx)
  have Q8 := Lib.hid q8
  have Q9 := Lib.hid q9
  have Q10 := Lib.hid q10
  go_wp2_with fail
  (with_reducible refine (c1 _).mono ?_)
  rintro e w5 ⟨v5, rfl, s5, k5⟩
  obtain ⟨A5, d5, e5, g5⟩ := s5.good
  rw [E1.out] at e5
  subst e5
  have kt5 := below_more kt4 k5 (Nat.le_refl _)
  have t5 := t4.below k5
  clear q8 q9 q10
  have q8 : w5.cell? ⟨w.heap.size, 8, none⟩ = some (.int .i64 r.oN) := (kt5.cell (p := ⟨w.heap.size, 8, none⟩) hs3).trans Q8.out
  have q9 : w5.cell? ⟨w.heap.size, 9, none⟩ = some (.bool false) := (kt5.cell (p := ⟨w.heap.size, 9, none⟩) hs3).trans Q9.out
  have q10 : w5.cell? ⟨w.heap.size, 10, none⟩ = some (.int .i64 r.nN) := (kt5.cell (p := ⟨w.heap.size, 10, none⟩) hs3).trans Q10.out
  go_wp2_with (first | (at_builtin; refine wpList_appendB rfl _ _ rfl w3.heap.size _ ([] : List Int) rfl t5 A5 vo a1 d5 rfl E1.out g5 (by rw [E1.out]; simp; omega) kt5.size w3 kt5 ?_; intro v6 w6 t6 kt6; clear q8 q9 q10; have q8 : w6.cell? ⟨w.heap.size, 8, none⟩ = some (.int .i64 r.oN) := (kt6.cell (p := ⟨w.heap.size, 8, none⟩) hs3).trans Q8.out; have q9 : w6.cell? ⟨w.heap.size, 9, none⟩ = some (.bool false) := (kt6.cell (p := ⟨w.heap.size, 9, none⟩) hs3).trans Q9.out; have q10 : w6.cell? ⟨w.heap.size, 10, none⟩ = some (.int .i64 r.nN) := (kt6.cell (p := ⟨w.heap.size, 10, none⟩) hs3).trans Q10.out; have kf : Below w6.heap.size w6 (w6.alloc (.cells #[.int .u8 (fl : Int)] 5)) := (Below.refl _ _).alloc (Nat.le_refl _) _; have kf3 := below_more kt6 kf (Nat.le_refl _); have o8 := o3.below kf3; have tf := t6.below kf; have gf := (owns_lit w6 [(fl : Int)]).good; obtain ⟨Af, df, ef, gf⟩ := gf; injection ef with ef1 ef2 ef3; subst ef1 ef3; have kf1 := below_more k3 kf3 (Nat.le_refl _); have N3 := Lib.hid n3; clear ef2 n3 kf kf3) | (at_builtin; refine wpList_appendBg rfl _ _ rfl w1.heap.size v3 ([(y0 : Int), (y1 : Int), (y2 : Int)] ++ [r.k0, r.k1, r.k2, r.k3]) rfl o8 (some ⟨w6.heap.size, 0, none⟩) [(fl : Int)] 1 1 rfl rfl (by omega) gf (by simp) kf1.size w1 kf1 N3.out ?_; intro v9 w9 o9 n9 gr k9; have t9 := tail_kept tf o3 (Nat.le_refl _) gr; clear gr n9; obtain ⟨A9, d9, e9, g9⟩ := t9.good; obtain ⟨l9, hl9⟩ : ∃ l, (([] : List Int) ++ vo).length = l := ⟨_, rfl⟩; rw [hl9] at e9; subst e9; have L9 := Lib.hid hl9; have B9 : l9 ≤ 16 := (by rw [← hl9]; rw [List.length_append, E1.out]; simp; omega); clear hl9) | (at_builtin; refine wpList_appendB rfl _ _ rfl w1.heap.size v9 (([(y0 : Int), (y1 : Int), (y2 : Int)] ++ [r.k0, r.k1, r.k2, r.k3]) ++ [(fl : Int)]) rfl o9 A9 (([] : List Int) ++ vo) l9 d9 rfl L9.out g9 (by rw [L9.out]; simp; omega) k9.size w1 k9 ?_; intro v10 w10 o10 k10))
  go_ret2
  have o11 := o10.base kw1.size
  simp only [List.append_assoc, List.nil_append, List.append_nil, List.cons_append] at o11 ⊢
  exact ⟨v10, rfl, o11, below_more kw1 k10 (Nat.le_refl _)⟩
set_option maxRecDepth 100000 in
set_option maxHeartbeats 2000000 in
theorem refEnc_1_ft (r : RecD) (hr : rightB r = true) (ok : okR r) (h2 : (r.kind == 2) = false) (h8 : (r.kind == 8) = false) (n1 : (r.kind != 1) = false) (hk : r.kind = 1) (hoT : r.oT = false) (hnT : r.nT = true) (w : World) : Calls Tryz.prog 66 #[.agg #[.int .i64 r.kind, .int .i64 r.tx, .int .u16 r.mask, .int .u8 r.k0, .int .u8 r.k1, .int .u8 r.k2, .int .u8 r.k3, .bool r.oT, .int .i64 r.oN, .bool r.nT, .int .i64 r.nN]] w (EncSays r w) := by
  have hbd := right_bd r hr
  have hh := headN_lt r hr
  have hw : r.kind - 1 + 8 * r.tx = ((headN r : Nat) : Int) := by unfold headN; omega
  have c0 : ∀ W, Calls Tryz.prog 76 #[.agg #[.int .i64 r.kind, .int .i64 r.tx, .int .u16 r.mask, .int .u8 r.k0, .int .u8 r.k1, .int .u8 r.k2, .int .u8 r.k3, .bool r.oT, .int .i64 r.oN, .bool r.nT, .int .i64 r.nN]] W fun e w' => e = .returned (.bool true) ∧ Below W.heap.size W w' := fun W => refRight_any r true hr W
  have he : encL r = bytesL (headN r) 3 ++ [r.k0, r.k1, r.k2, r.k3] ++ [((2 * 1 + 32 * (nb (zigN r.nN) - 1) : Nat) : Int)] ++ (valL false r.oN ++ valL true r.nN) := by
    have hfl : flagsN r = 2 * 1 + 32 * (nb (zigN r.nN) - 1) := by simp [flagsN, hoT, hnT, bitN, less]
    rw [← hfl]
    simp [encL, tailL, hk, hoT, hnT]
  unfold EncSays
  rw [he]
  have HB := Lib.hid (recBox_new w r)
  obtain ⟨hbd1, hbd2, hbd3, hbd4⟩ := hbd
  have c1 := fun W => small_any r.oN ok.oN W
  have c2 := fun W => small_any r.nN ok.nN W
  have m1 := valL_le true r.oN
  have m2 := valL_le true r.nN
  have e1 : (valL true r.oN).length = nb (zigN r.oN) := valL_length _ _
  have e2 : (valL true r.nN).length = nb (zigN r.nN) := valL_length _ _
  have bd1 := nb_bd (zigN r.oN)
  have bd2 := nb_bd (zigN r.nN)
  have f1 : valL false r.oN = [] := rfl
  have f2 : valL false r.nN = [] := rfl
  rw [e1] at m1
  rw [e2] at m2
  generalize nb (zigN r.oN) = a1 at *
  generalize nb (zigN r.nN) = a2 at *
  generalize valL true r.oN = vo at *
  generalize valL true r.nN = vn at *
  try rw [f1]
  try rw [f2]
  have E1 := Lib.hid e1
  have E2 := Lib.hid e2
  clear e1 e2 f1 f2 hk
  obtain ⟨fl, hfl⟩ : ∃ fl, 2 * 1 + 32 * (a2 - 1) = fl := ⟨_, rfl⟩
  have HFL := Lib.hid hfl
  have hfw : IntKind.u8.wrap (2 + 32 * ((a2 : Int) - 1)) = (fl : Int) := by rw [show (2 + 32 * ((a2 : Int) - 1)) = ((fl : Nat) : Int) by omega, u8wrap]; omega
  rw [hfl]
  have HOT := Lib.hid hoT
  have HNT := Lib.hid hnT
  clear hfl hoT hnT
  generalize headN r = h at *
  have b0 := head0 h
  have b1 := head1 h
  have b2 := head2 h hh
  rw [bytes_three h]
  generalize byteAt h 0 = y0 at *
  generalize byteAt h 1 = y1 at *
  generalize byteAt h 2 = y2 at *
  clear hr ok he
  go_enter Tryz.func66, Tryz.ntmps66
  go_wp2_with fail
  (with_reducible refine (c0 _).mono ?_)
  rintro e w1 ⟨rfl, k1⟩
  have rb1 : RecBox w1 w.heap.size r := HB.out.below k1 (by simp)
  have kw1 : Below w.heap.size w w1 := ((Below.refl _ w).alloc (Nat.le_refl _) _).trans (k1.mono (by simp))
  have hs1 := rb1.at_.lt
  clear HB k1 c0
  have q0 : w1.cell? ⟨w.heap.size, 0, none⟩ = some (.int .i64 r.kind) := rb1.at_.c0
  have q1 : w1.cell? ⟨w.heap.size, 1, none⟩ = some (.int .i64 r.tx) := rb1.at_.c1
  have q2 : w1.cell? ⟨w.heap.size, 2, none⟩ = some (.int .u16 r.mask) := rb1.at_.c2
  have q3 : w1.cell? ⟨w.heap.size, 3, none⟩ = some (.int .u8 r.k0) := rb1.at_.c3
  have q4 : w1.cell? ⟨w.heap.size, 4, none⟩ = some (.int .u8 r.k1) := rb1.at_.c4
  have q5 : w1.cell? ⟨w.heap.size, 5, none⟩ = some (.int .u8 r.k2) := rb1.at_.c5
  have q6 : w1.cell? ⟨w.heap.size, 6, none⟩ = some (.int .u8 r.k3) := rb1.at_.c6
  have q7 : w1.cell? ⟨w.heap.size, 7, none⟩ = some (.bool false) := by rw [← HOT.out]; exact rb1.at_.c7
  have q8 : w1.cell? ⟨w.heap.size, 8, none⟩ = some (.int .i64 r.oN) := rb1.at_.c8
  have q9 : w1.cell? ⟨w.heap.size, 9, none⟩ = some (.bool true) := by rw [← HNT.out]; exact rb1.at_.c9
  have q10 : w1.cell? ⟨w.heap.size, 10, none⟩ = some (.int .i64 r.nN) := rb1.at_.c10
  have o1 := owns_lit w1 [(y0 : Int), (y1 : Int), (y2 : Int)]
  have kx : Below w1.heap.size w1 (w1.alloc (.cells #[.int .u8 y0, .int .u8 y1, .int .u8 y2] 5)) := (Below.refl _ _).alloc (Nat.le_refl _) _
  have kx2 : Below (w1.alloc (.cells #[.int .u8 y0, .int .u8 y1, .int .u8 y2] 5)).heap.size (w1.alloc (.cells #[.int .u8 y0, .int .u8 y1, .int .u8 y2] 5)) ((w1.alloc (.cells #[.int .u8 y0, .int .u8 y1, .int .u8 y2] 5)).alloc (.cells #[.int .u8 r.k0, .int .u8 r.k1, .int .u8 r.k2, .int .u8 r.k3] 5)) := (Below.refl _ _).alloc (Nat.le_refl _) _
  have o2 := o1.below kx2
  have g2 := (owns_lit (w1.alloc (.cells #[.int .u8 y0, .int .u8 y1, .int .u8 y2] 5)) [r.k0, r.k1, r.k2, r.k3]).good
  obtain ⟨A2, d2, e2, g2⟩ := g2
  injection e2 with e3 e4 e5
  subst e3 e5
  rw [show (w1.alloc (.cells #[.int .u8 y0, .int .u8 y1, .int .u8 y2] 5)).heap.size = w1.heap.size + 1 by simp] at g2
  have kx3 := below_more kx kx2 (Nat.le_refl _)
  have TL := Lib.hid (fun W : World => owns_lit W [])
  clear e4
  go_wp2_with (at_builtin; refine wpList_appendBg rfl _ _ rfl w1.heap.size _ [(y0 : Int), (y1 : Int), (y2 : Int)] rfl o2 (some ⟨w1.heap.size + 1, 0, none⟩) [r.k0, r.k1, r.k2, r.k3] 4 4 rfl rfl (by omega) g2 (by simp) kx3.size w1 kx3 (fun e => by cases e) ?_; intro v3 w3 o3 n3 _ k3; have rb3 := rb1.below k3 hs1; have hs3 := rb3.at_.lt; obtain ⟨q0, q1, q2, q3, q4, q5, q6, q7', q8, q9', q10⟩ := rb3.at_; have q7 : w3.cell? ⟨w.heap.size, 7, none⟩ = some (.bool false) := (by rw [← HOT.out]; exact q7'); have q9 : w3.cell? ⟨w.heap.size, 9, none⟩ = some (.bool true) := (by rw [← HNT.out]; exact q9'); have t4 := TL.out w3; have kt4 : Below w3.heap.size w3 (w3.alloc (.cells #[] 5)) := (Below.refl _ _).alloc (Nat.le_refl _) _; clear q7' q9' q0 q1 q2 q3 q4 q5 q6 o2 g2 kx2 kx3 o1 kx)
  have Q8 := Lib.hid q8
  have Q9 := Lib.hid q9
  have Q10 := Lib.hid q10
  go_wp2_with fail
  (with_reducible refine (c2 _).mono ?_)
  rintro e w5 ⟨v5, rfl, s5, k5⟩
  obtain ⟨A5, d5, e5, g5⟩ := s5.good
  rw [E2.out] at e5
  subst e5
  have kt5 := below_more kt4 k5 (Nat.le_refl _)
  have t5 := t4.below k5
  clear q8 q9 q10
  have q8 : w5.cell? ⟨w.heap.size, 8, none⟩ = some (.int .i64 r.oN) := (kt5.cell (p := ⟨w.heap.size, 8, none⟩) hs3).trans Q8.out
  have q9 : w5.cell? ⟨w.heap.size, 9, none⟩ = some (.bool true) := (kt5.cell (p := ⟨w.heap.size, 9, none⟩) hs3).trans Q9.out
  have q10 : w5.cell? ⟨w.heap.size, 10, none⟩ = some (.int .i64 r.nN) := (kt5.cell (p := ⟨w.heap.size, 10, none⟩) hs3).trans Q10.out
  go_wp2_with (first | (at_builtin; refine wpList_appendB rfl _ _ rfl w3.heap.size _ ([] : List Int) rfl t5 A5 vn a2 d5 rfl E2.out g5 (by rw [E2.out]; simp; omega) kt5.size w3 kt5 ?_; intro v6 w6 t6 kt6; clear q8 q9 q10; have q8 : w6.cell? ⟨w.heap.size, 8, none⟩ = some (.int .i64 r.oN) := (kt6.cell (p := ⟨w.heap.size, 8, none⟩) hs3).trans Q8.out; have q9 : w6.cell? ⟨w.heap.size, 9, none⟩ = some (.bool true) := (kt6.cell (p := ⟨w.heap.size, 9, none⟩) hs3).trans Q9.out; have q10 : w6.cell? ⟨w.heap.size, 10, none⟩ = some (.int .i64 r.nN) := (kt6.cell (p := ⟨w.heap.size, 10, none⟩) hs3).trans Q10.out; have kf : Below w6.heap.size w6 (w6.alloc (.cells #[.int .u8 (fl : Int)] 5)) := (Below.refl _ _).alloc (Nat.le_refl _) _; have kf3 := below_more kt6 kf (Nat.le_refl _); have o8 := o3.below kf3; have tf := t6.below kf; have gf := (owns_lit w6 [(fl : Int)]).good; obtain ⟨Af, df, ef, gf⟩ := gf; injection ef with ef1 ef2 ef3; subst ef1 ef3; have kf1 := below_more k3 kf3 (Nat.le_refl _); have N3 := Lib.hid n3; clear ef2 n3 kf kf3) | (at_builtin; refine wpList_appendBg rfl _ _ rfl w1.heap.size v3 ([(y0 : Int), (y1 : Int), (y2 : Int)] ++ [r.k0, r.k1, r.k2, r.k3]) rfl o8 (some ⟨w6.heap.size, 0, none⟩) [(fl : Int)] 1 1 rfl rfl (by omega) gf (by simp) kf1.size w1 kf1 N3.out ?_; intro v9 w9 o9 n9 gr k9; have t9 := tail_kept tf o3 (Nat.le_refl _) gr; clear gr n9; obtain ⟨A9, d9, e9, g9⟩ := t9.good; obtain ⟨l9, hl9⟩ : ∃ l, (([] : List Int) ++ vn).length = l := ⟨_, rfl⟩; rw [hl9] at e9; subst e9; have L9 := Lib.hid hl9; have B9 : l9 ≤ 16 := (by rw [← hl9]; rw [List.length_append, E2.out]; simp; omega); clear hl9) | (at_builtin; refine wpList_appendB rfl _ _ rfl w1.heap.size v9 (([(y0 : Int), (y1 : Int), (y2 : Int)] ++ [r.k0, r.k1, r.k2, r.k3]) ++ [(fl : Int)]) rfl o9 A9 (([] : List Int) ++ vn) l9 d9 rfl L9.out g9 (by rw [L9.out]; simp; omega) k9.size w1 k9 ?_; intro v10 w10 o10 k10))
  go_ret2
  have o11 := o10.base kw1.size
  simp only [List.append_assoc, List.nil_append, List.append_nil, List.cons_append] at o11 ⊢
  exact ⟨v10, rfl, o11, below_more kw1 k10 (Nat.le_refl _)⟩
set_option maxRecDepth 100000 in
set_option maxHeartbeats 2000000 in
theorem refEnc_1_ff (r : RecD) (hr : rightB r = true) (ok : okR r) (h2 : (r.kind == 2) = false) (h8 : (r.kind == 8) = false) (n1 : (r.kind != 1) = false) (hk : r.kind = 1) (hoT : r.oT = false) (hnT : r.nT = false) (w : World) : Calls Tryz.prog 66 #[.agg #[.int .i64 r.kind, .int .i64 r.tx, .int .u16 r.mask, .int .u8 r.k0, .int .u8 r.k1, .int .u8 r.k2, .int .u8 r.k3, .bool r.oT, .int .i64 r.oN, .bool r.nT, .int .i64 r.nN]] w (EncSays r w) := by
  have hbd := right_bd r hr
  have hh := headN_lt r hr
  have hw : r.kind - 1 + 8 * r.tx = ((headN r : Nat) : Int) := by unfold headN; omega
  have c0 : ∀ W, Calls Tryz.prog 76 #[.agg #[.int .i64 r.kind, .int .i64 r.tx, .int .u16 r.mask, .int .u8 r.k0, .int .u8 r.k1, .int .u8 r.k2, .int .u8 r.k3, .bool r.oT, .int .i64 r.oN, .bool r.nT, .int .i64 r.nN]] W fun e w' => e = .returned (.bool true) ∧ Below W.heap.size W w' := fun W => refRight_any r true hr W
  have he : encL r = bytesL (headN r) 3 ++ [r.k0, r.k1, r.k2, r.k3] ++ [((0 : Nat) : Int)] ++ (valL false r.oN ++ valL false r.nN) := by
    have hfl : flagsN r = 0 := by simp [flagsN, hoT, hnT, bitN, less]
    rw [← hfl]
    simp [encL, tailL, hk, hoT, hnT]
  unfold EncSays
  rw [he]
  have HB := Lib.hid (recBox_new w r)
  obtain ⟨hbd1, hbd2, hbd3, hbd4⟩ := hbd
  have c1 := fun W => small_any r.oN ok.oN W
  have c2 := fun W => small_any r.nN ok.nN W
  have m1 := valL_le true r.oN
  have m2 := valL_le true r.nN
  have e1 : (valL true r.oN).length = nb (zigN r.oN) := valL_length _ _
  have e2 : (valL true r.nN).length = nb (zigN r.nN) := valL_length _ _
  have bd1 := nb_bd (zigN r.oN)
  have bd2 := nb_bd (zigN r.nN)
  have f1 : valL false r.oN = [] := rfl
  have f2 : valL false r.nN = [] := rfl
  rw [e1] at m1
  rw [e2] at m2
  generalize nb (zigN r.oN) = a1 at *
  generalize nb (zigN r.nN) = a2 at *
  generalize valL true r.oN = vo at *
  generalize valL true r.nN = vn at *
  try rw [f1]
  try rw [f2]
  have E1 := Lib.hid e1
  have E2 := Lib.hid e2
  clear e1 e2 f1 f2 hk
  obtain ⟨fl, hfl⟩ : ∃ fl, 0 = fl := ⟨_, rfl⟩
  have HFL := Lib.hid hfl
  have hfw : IntKind.u8.wrap 0 = (fl : Int) := by rw [show (0 : Int) = ((fl : Nat) : Int) by omega, u8wrap]; omega
  rw [hfl]
  have HOT := Lib.hid hoT
  have HNT := Lib.hid hnT
  clear hfl hoT hnT
  generalize headN r = h at *
  have b0 := head0 h
  have b1 := head1 h
  have b2 := head2 h hh
  rw [bytes_three h]
  generalize byteAt h 0 = y0 at *
  generalize byteAt h 1 = y1 at *
  generalize byteAt h 2 = y2 at *
  clear hr ok he
  go_enter Tryz.func66, Tryz.ntmps66
  go_wp2_with fail
  (with_reducible refine (c0 _).mono ?_)
  rintro e w1 ⟨rfl, k1⟩
  have rb1 : RecBox w1 w.heap.size r := HB.out.below k1 (by simp)
  have kw1 : Below w.heap.size w w1 := ((Below.refl _ w).alloc (Nat.le_refl _) _).trans (k1.mono (by simp))
  have hs1 := rb1.at_.lt
  clear HB k1 c0
  have q0 : w1.cell? ⟨w.heap.size, 0, none⟩ = some (.int .i64 r.kind) := rb1.at_.c0
  have q1 : w1.cell? ⟨w.heap.size, 1, none⟩ = some (.int .i64 r.tx) := rb1.at_.c1
  have q2 : w1.cell? ⟨w.heap.size, 2, none⟩ = some (.int .u16 r.mask) := rb1.at_.c2
  have q3 : w1.cell? ⟨w.heap.size, 3, none⟩ = some (.int .u8 r.k0) := rb1.at_.c3
  have q4 : w1.cell? ⟨w.heap.size, 4, none⟩ = some (.int .u8 r.k1) := rb1.at_.c4
  have q5 : w1.cell? ⟨w.heap.size, 5, none⟩ = some (.int .u8 r.k2) := rb1.at_.c5
  have q6 : w1.cell? ⟨w.heap.size, 6, none⟩ = some (.int .u8 r.k3) := rb1.at_.c6
  have q7 : w1.cell? ⟨w.heap.size, 7, none⟩ = some (.bool false) := by rw [← HOT.out]; exact rb1.at_.c7
  have q8 : w1.cell? ⟨w.heap.size, 8, none⟩ = some (.int .i64 r.oN) := rb1.at_.c8
  have q9 : w1.cell? ⟨w.heap.size, 9, none⟩ = some (.bool false) := by rw [← HNT.out]; exact rb1.at_.c9
  have q10 : w1.cell? ⟨w.heap.size, 10, none⟩ = some (.int .i64 r.nN) := rb1.at_.c10
  have o1 := owns_lit w1 [(y0 : Int), (y1 : Int), (y2 : Int)]
  have kx : Below w1.heap.size w1 (w1.alloc (.cells #[.int .u8 y0, .int .u8 y1, .int .u8 y2] 5)) := (Below.refl _ _).alloc (Nat.le_refl _) _
  have kx2 : Below (w1.alloc (.cells #[.int .u8 y0, .int .u8 y1, .int .u8 y2] 5)).heap.size (w1.alloc (.cells #[.int .u8 y0, .int .u8 y1, .int .u8 y2] 5)) ((w1.alloc (.cells #[.int .u8 y0, .int .u8 y1, .int .u8 y2] 5)).alloc (.cells #[.int .u8 r.k0, .int .u8 r.k1, .int .u8 r.k2, .int .u8 r.k3] 5)) := (Below.refl _ _).alloc (Nat.le_refl _) _
  have o2 := o1.below kx2
  have g2 := (owns_lit (w1.alloc (.cells #[.int .u8 y0, .int .u8 y1, .int .u8 y2] 5)) [r.k0, r.k1, r.k2, r.k3]).good
  obtain ⟨A2, d2, e2, g2⟩ := g2
  injection e2 with e3 e4 e5
  subst e3 e5
  rw [show (w1.alloc (.cells #[.int .u8 y0, .int .u8 y1, .int .u8 y2] 5)).heap.size = w1.heap.size + 1 by simp] at g2
  have kx3 := below_more kx kx2 (Nat.le_refl _)
  have TL := Lib.hid (fun W : World => owns_lit W [])
  clear e4
  go_wp2_with (first | (at_builtin; refine wpList_appendBg rfl _ _ rfl w1.heap.size _ [(y0 : Int), (y1 : Int), (y2 : Int)] rfl o2 (some ⟨w1.heap.size + 1, 0, none⟩) [r.k0, r.k1, r.k2, r.k3] 4 4 rfl rfl (by omega) g2 (by simp) kx3.size w1 kx3 (fun e => by cases e) ?_; intro v3 w3 o3 n3 _ k3; have rb3 := rb1.below k3 hs1; have hs3 := rb3.at_.lt; obtain ⟨q0, q1, q2, q3, q4, q5, q6, q7', q8, q9', q10⟩ := rb3.at_; have q7 : w3.cell? ⟨w.heap.size, 7, none⟩ = some (.bool false) := (by rw [← HOT.out]; exact q7'); have q9 : w3.cell? ⟨w.heap.size, 9, none⟩ = some (.bool false) := (by rw [← HNT.out]; exact q9'); have t4 := TL.out w3; have kt4 : Below w3.heap.size w3 (w3.alloc (.cells #[] 5)) := (Below.refl _ _).alloc (Nat.le_refl _) _; clear q7' q9' q0 q1 q2 q3 q4 q5 q6 o2 g2 kx2 kx3 o1 kx; have kf : Below (w3.alloc (.cells #[] 5)).heap.size (w3.alloc (.cells #[] 5)) ((w3.alloc (.cells #[] 5)).alloc (.cells #[.int .u8 (fl : Int)] 5)) := (Below.refl _ _).alloc (Nat.le_refl _) _; have kf3 := below_more kt4 kf (Nat.le_refl _); have o8 := o3.below kf3; have tf := t4.below kf; have gf := (owns_lit (w3.alloc (.cells #[] 5)) [(fl : Int)]).good; obtain ⟨Af, df, ef, gf⟩ := gf; injection ef with ef1 ef2 ef3; subst ef1 ef3; have kf1 := below_more k3 kf3 (Nat.le_refl _); have N3 := Lib.hid n3; clear ef2 n3 kf kf3; rw [show (w3.alloc (.cells #[] 5)).heap.size = w3.heap.size + 1 by simp] at gf) | (at_builtin; refine wpList_appendBg rfl _ _ rfl w1.heap.size v3 ([(y0 : Int), (y1 : Int), (y2 : Int)] ++ [r.k0, r.k1, r.k2, r.k3]) rfl o8 (some ⟨w3.heap.size + 1, 0, none⟩) [(fl : Int)] 1 1 rfl rfl (by omega) gf (by simp) kf1.size w1 kf1 N3.out ?_; intro v9 w9 o9 n9 gr k9; have t9 := tail_kept tf o3 (Nat.le_refl _) gr; clear gr n9; obtain ⟨A9, d9, e9, g9⟩ := t9.good; injection e9 with ea eb ec; subst ea ec; clear eb) | (at_builtin; refine wpList_appendB rfl _ _ rfl w1.heap.size v9 (([(y0 : Int), (y1 : Int), (y2 : Int)] ++ [r.k0, r.k1, r.k2, r.k3]) ++ [(fl : Int)]) rfl o9 (some ⟨w3.heap.size, 0, none⟩) ([] : List Int) 0 0 rfl rfl g9 (by simp) k9.size w1 k9 ?_; intro v10 w10 o10 k10))
  go_ret2
  have o11 := o10.base kw1.size
  simp only [List.append_assoc, List.nil_append, List.append_nil, List.cons_append] at o11 ⊢
  exact ⟨v10, rfl, o11, below_more kw1 k10 (Nat.le_refl _)⟩
set_option maxRecDepth 100000 in
set_option maxHeartbeats 2000000 in
theorem refEnc_7_tt (r : RecD) (hr : rightB r = true) (ok : okR r) (h2 : (r.kind == 2) = false) (h8 : (r.kind == 8) = false) (n1 : (r.kind != 1) = true) (n7 : (r.kind != 7) = false) (hk : r.kind = 7) (hoT : r.oT = true) (hnT : r.nT = true) (w : World) : Calls Tryz.prog 66 #[.agg #[.int .i64 r.kind, .int .i64 r.tx, .int .u16 r.mask, .int .u8 r.k0, .int .u8 r.k1, .int .u8 r.k2, .int .u8 r.k3, .bool r.oT, .int .i64 r.oN, .bool r.nT, .int .i64 r.nN]] w (EncSays r w) := by
  have hbd := right_bd r hr
  have hh := headN_lt r hr
  have hw : r.kind - 1 + 8 * r.tx = ((headN r : Nat) : Int) := by unfold headN; omega
  have c0 : ∀ W, Calls Tryz.prog 76 #[.agg #[.int .i64 r.kind, .int .i64 r.tx, .int .u16 r.mask, .int .u8 r.k0, .int .u8 r.k1, .int .u8 r.k2, .int .u8 r.k3, .bool r.oT, .int .i64 r.oN, .bool r.nT, .int .i64 r.nN]] W fun e w' => e = .returned (.bool true) ∧ Below W.heap.size W w' := fun W => refRight_any r true hr W
  have he : encL r = bytesL (headN r) 3 ++ [r.k0, r.k1, r.k2, r.k3] ++ [((1 + 2 * 1 + 4 * (nb (zigN r.oN) - 1) + 32 * (nb (zigN r.nN) - 1) : Nat) : Int)] ++ (valL true r.oN ++ valL true r.nN) := by
    have hfl : flagsN r = 1 + 2 * 1 + 4 * (nb (zigN r.oN) - 1) + 32 * (nb (zigN r.nN) - 1) := by simp [flagsN, hoT, hnT, bitN, less]
    rw [← hfl]
    simp [encL, tailL, hk, hoT, hnT]
  unfold EncSays
  rw [he]
  have HB := Lib.hid (recBox_new w r)
  obtain ⟨hbd1, hbd2, hbd3, hbd4⟩ := hbd
  have c1 := fun W => small_any r.oN ok.oN W
  have c2 := fun W => small_any r.nN ok.nN W
  have m1 := valL_le true r.oN
  have m2 := valL_le true r.nN
  have e1 : (valL true r.oN).length = nb (zigN r.oN) := valL_length _ _
  have e2 : (valL true r.nN).length = nb (zigN r.nN) := valL_length _ _
  have bd1 := nb_bd (zigN r.oN)
  have bd2 := nb_bd (zigN r.nN)
  have f1 : valL false r.oN = [] := rfl
  have f2 : valL false r.nN = [] := rfl
  rw [e1] at m1
  rw [e2] at m2
  generalize nb (zigN r.oN) = a1 at *
  generalize nb (zigN r.nN) = a2 at *
  generalize valL true r.oN = vo at *
  generalize valL true r.nN = vn at *
  try rw [f1]
  try rw [f2]
  have E1 := Lib.hid e1
  have E2 := Lib.hid e2
  clear e1 e2 f1 f2 hk
  obtain ⟨fl, hfl⟩ : ∃ fl, 1 + 2 * 1 + 4 * (a1 - 1) + 32 * (a2 - 1) = fl := ⟨_, rfl⟩
  have HFL := Lib.hid hfl
  have hfw : IntKind.u8.wrap (1 + 4 * ((a1 : Int) - 1) + (2 + 32 * ((a2 : Int) - 1))) = (fl : Int) := by rw [show (1 + 4 * ((a1 : Int) - 1) + (2 + 32 * ((a2 : Int) - 1))) = ((fl : Nat) : Int) by omega, u8wrap]; omega
  rw [hfl]
  have HOT := Lib.hid hoT
  have HNT := Lib.hid hnT
  clear hfl hoT hnT
  generalize headN r = h at *
  have b0 := head0 h
  have b1 := head1 h
  have b2 := head2 h hh
  rw [bytes_three h]
  generalize byteAt h 0 = y0 at *
  generalize byteAt h 1 = y1 at *
  generalize byteAt h 2 = y2 at *
  clear hr ok he
  go_enter Tryz.func66, Tryz.ntmps66
  go_wp2_with fail
  (with_reducible refine (c0 _).mono ?_)
  rintro e w1 ⟨rfl, k1⟩
  have rb1 : RecBox w1 w.heap.size r := HB.out.below k1 (by simp)
  have kw1 : Below w.heap.size w w1 := ((Below.refl _ w).alloc (Nat.le_refl _) _).trans (k1.mono (by simp))
  have hs1 := rb1.at_.lt
  clear HB k1 c0
  have q0 : w1.cell? ⟨w.heap.size, 0, none⟩ = some (.int .i64 r.kind) := rb1.at_.c0
  have q1 : w1.cell? ⟨w.heap.size, 1, none⟩ = some (.int .i64 r.tx) := rb1.at_.c1
  have q2 : w1.cell? ⟨w.heap.size, 2, none⟩ = some (.int .u16 r.mask) := rb1.at_.c2
  have q3 : w1.cell? ⟨w.heap.size, 3, none⟩ = some (.int .u8 r.k0) := rb1.at_.c3
  have q4 : w1.cell? ⟨w.heap.size, 4, none⟩ = some (.int .u8 r.k1) := rb1.at_.c4
  have q5 : w1.cell? ⟨w.heap.size, 5, none⟩ = some (.int .u8 r.k2) := rb1.at_.c5
  have q6 : w1.cell? ⟨w.heap.size, 6, none⟩ = some (.int .u8 r.k3) := rb1.at_.c6
  have q7 : w1.cell? ⟨w.heap.size, 7, none⟩ = some (.bool true) := by rw [← HOT.out]; exact rb1.at_.c7
  have q8 : w1.cell? ⟨w.heap.size, 8, none⟩ = some (.int .i64 r.oN) := rb1.at_.c8
  have q9 : w1.cell? ⟨w.heap.size, 9, none⟩ = some (.bool true) := by rw [← HNT.out]; exact rb1.at_.c9
  have q10 : w1.cell? ⟨w.heap.size, 10, none⟩ = some (.int .i64 r.nN) := rb1.at_.c10
  have o1 := owns_lit w1 [(y0 : Int), (y1 : Int), (y2 : Int)]
  have kx : Below w1.heap.size w1 (w1.alloc (.cells #[.int .u8 y0, .int .u8 y1, .int .u8 y2] 5)) := (Below.refl _ _).alloc (Nat.le_refl _) _
  have kx2 : Below (w1.alloc (.cells #[.int .u8 y0, .int .u8 y1, .int .u8 y2] 5)).heap.size (w1.alloc (.cells #[.int .u8 y0, .int .u8 y1, .int .u8 y2] 5)) ((w1.alloc (.cells #[.int .u8 y0, .int .u8 y1, .int .u8 y2] 5)).alloc (.cells #[.int .u8 r.k0, .int .u8 r.k1, .int .u8 r.k2, .int .u8 r.k3] 5)) := (Below.refl _ _).alloc (Nat.le_refl _) _
  have o2 := o1.below kx2
  have g2 := (owns_lit (w1.alloc (.cells #[.int .u8 y0, .int .u8 y1, .int .u8 y2] 5)) [r.k0, r.k1, r.k2, r.k3]).good
  obtain ⟨A2, d2, e2, g2⟩ := g2
  injection e2 with e3 e4 e5
  subst e3 e5
  rw [show (w1.alloc (.cells #[.int .u8 y0, .int .u8 y1, .int .u8 y2] 5)).heap.size = w1.heap.size + 1 by simp] at g2
  have kx3 := below_more kx kx2 (Nat.le_refl _)
  have TL := Lib.hid (fun W : World => owns_lit W [])
  clear e4
  go_wp2_with (at_builtin; refine wpList_appendBg rfl _ _ rfl w1.heap.size _ [(y0 : Int), (y1 : Int), (y2 : Int)] rfl o2 (some ⟨w1.heap.size + 1, 0, none⟩) [r.k0, r.k1, r.k2, r.k3] 4 4 rfl rfl (by omega) g2 (by simp) kx3.size w1 kx3 (fun e => by cases e) ?_; intro v3 w3 o3 n3 _ k3; have rb3 := rb1.below k3 hs1; have hs3 := rb3.at_.lt; obtain ⟨q0, q1, q2, q3, q4, q5, q6, q7', q8, q9', q10⟩ := rb3.at_; have q7 : w3.cell? ⟨w.heap.size, 7, none⟩ = some (.bool true) := (by rw [← HOT.out]; exact q7'); have q9 : w3.cell? ⟨w.heap.size, 9, none⟩ = some (.bool true) := (by rw [← HNT.out]; exact q9'); have t4 := TL.out w3; have kt4 : Below w3.heap.size w3 (w3.alloc (.cells #[] 5)) := (Below.refl _ _).alloc (Nat.le_refl _) _; clear q7' q9' q0 q1 q2 q3 q4 q5 q6 o2 g2 kx2 kx3 o1 kx)
  have Q8 := Lib.hid q8
  have Q9 := Lib.hid q9
  have Q10 := Lib.hid q10
  go_wp2_with fail
  (with_reducible refine (c1 _).mono ?_)
  rintro e w5 ⟨v5, rfl, s5, k5⟩
  obtain ⟨A5, d5, e5, g5⟩ := s5.good
  rw [E1.out] at e5
  subst e5
  have kt5 := below_more kt4 k5 (Nat.le_refl _)
  have t5 := t4.below k5
  clear q8 q9 q10
  have q8 : w5.cell? ⟨w.heap.size, 8, none⟩ = some (.int .i64 r.oN) := (kt5.cell (p := ⟨w.heap.size, 8, none⟩) hs3).trans Q8.out
  have q9 : w5.cell? ⟨w.heap.size, 9, none⟩ = some (.bool true) := (kt5.cell (p := ⟨w.heap.size, 9, none⟩) hs3).trans Q9.out
  have q10 : w5.cell? ⟨w.heap.size, 10, none⟩ = some (.int .i64 r.nN) := (kt5.cell (p := ⟨w.heap.size, 10, none⟩) hs3).trans Q10.out
  go_wp2_with (at_builtin; refine wpList_appendB rfl _ _ rfl w3.heap.size _ ([] : List Int) rfl t5 A5 vo a1 d5 rfl E1.out g5 (by rw [E1.out]; simp; omega) kt5.size w3 kt5 ?_; intro v6 w6 t6 kt6; clear q8 q9 q10; have q8 : w6.cell? ⟨w.heap.size, 8, none⟩ = some (.int .i64 r.oN) := (kt6.cell (p := ⟨w.heap.size, 8, none⟩) hs3).trans Q8.out; have q9 : w6.cell? ⟨w.heap.size, 9, none⟩ = some (.bool true) := (kt6.cell (p := ⟨w.heap.size, 9, none⟩) hs3).trans Q9.out; have q10 : w6.cell? ⟨w.heap.size, 10, none⟩ = some (.int .i64 r.nN) := (kt6.cell (p := ⟨w.heap.size, 10, none⟩) hs3).trans Q10.out)
  go_wp2_with fail
  (with_reducible refine (c2 _).mono ?_)
  rintro e w7 ⟨v7, rfl, s7, k7⟩
  obtain ⟨A7, d7, e7, g7⟩ := s7.good
  rw [E2.out] at e7
  subst e7
  have kt7 := below_more kt6 k7 (Nat.le_refl _)
  have t7 := t6.below k7
  clear q8 q9 q10
  have q8 : w7.cell? ⟨w.heap.size, 8, none⟩ = some (.int .i64 r.oN) := (kt7.cell (p := ⟨w.heap.size, 8, none⟩) hs3).trans Q8.out
  have q9 : w7.cell? ⟨w.heap.size, 9, none⟩ = some (.bool true) := (kt7.cell (p := ⟨w.heap.size, 9, none⟩) hs3).trans Q9.out
  have q10 : w7.cell? ⟨w.heap.size, 10, none⟩ = some (.int .i64 r.nN) := (kt7.cell (p := ⟨w.heap.size, 10, none⟩) hs3).trans Q10.out
  go_wp2_with (first | (at_builtin; refine wpList_appendB rfl _ _ rfl w3.heap.size _ (([] : List Int) ++ vo) rfl t7 A7 vn a2 d7 rfl E2.out g7 (by rw [E2.out]; rw [List.length_append, E1.out]; simp; omega) kt7.size w3 kt7 ?_; intro v8 w8 t8 kt8; clear q8 q9 q10; have q8 : w8.cell? ⟨w.heap.size, 8, none⟩ = some (.int .i64 r.oN) := (kt8.cell (p := ⟨w.heap.size, 8, none⟩) hs3).trans Q8.out; have q9 : w8.cell? ⟨w.heap.size, 9, none⟩ = some (.bool true) := (kt8.cell (p := ⟨w.heap.size, 9, none⟩) hs3).trans Q9.out; have q10 : w8.cell? ⟨w.heap.size, 10, none⟩ = some (.int .i64 r.nN) := (kt8.cell (p := ⟨w.heap.size, 10, none⟩) hs3).trans Q10.out; have kf : Below w8.heap.size w8 (w8.alloc (.cells #[.int .u8 (fl : Int)] 5)) := (Below.refl _ _).alloc (Nat.le_refl _) _; have kf3 := below_more kt8 kf (Nat.le_refl _); have o8 := o3.below kf3; have tf := t8.below kf; have gf := (owns_lit w8 [(fl : Int)]).good; obtain ⟨Af, df, ef, gf⟩ := gf; injection ef with ef1 ef2 ef3; subst ef1 ef3; have kf1 := below_more k3 kf3 (Nat.le_refl _); have N3 := Lib.hid n3; clear ef2 n3 kf kf3) | (at_builtin; refine wpList_appendBg rfl _ _ rfl w1.heap.size v3 ([(y0 : Int), (y1 : Int), (y2 : Int)] ++ [r.k0, r.k1, r.k2, r.k3]) rfl o8 (some ⟨w8.heap.size, 0, none⟩) [(fl : Int)] 1 1 rfl rfl (by omega) gf (by simp) kf1.size w1 kf1 N3.out ?_; intro v9 w9 o9 n9 gr k9; have t9 := tail_kept tf o3 (Nat.le_refl _) gr; clear gr n9; obtain ⟨A9, d9, e9, g9⟩ := t9.good; obtain ⟨l9, hl9⟩ : ∃ l, ((([] : List Int) ++ vo) ++ vn).length = l := ⟨_, rfl⟩; rw [hl9] at e9; subst e9; have L9 := Lib.hid hl9; have B9 : l9 ≤ 16 := (by rw [← hl9]; rw [List.length_append, List.length_append, E1.out, E2.out]; simp; omega); clear hl9) | (at_builtin; refine wpList_appendB rfl _ _ rfl w1.heap.size v9 (([(y0 : Int), (y1 : Int), (y2 : Int)] ++ [r.k0, r.k1, r.k2, r.k3]) ++ [(fl : Int)]) rfl o9 A9 ((([] : List Int) ++ vo) ++ vn) l9 d9 rfl L9.out g9 (by rw [L9.out]; simp; omega) k9.size w1 k9 ?_; intro v10 w10 o10 k10))
  go_ret2
  have o11 := o10.base kw1.size
  simp only [List.append_assoc, List.nil_append, List.append_nil, List.cons_append] at o11 ⊢
  exact ⟨v10, rfl, o11, below_more kw1 k10 (Nat.le_refl _)⟩
set_option maxRecDepth 100000 in
set_option maxHeartbeats 2000000 in
theorem refEnc_7_tf (r : RecD) (hr : rightB r = true) (ok : okR r) (h2 : (r.kind == 2) = false) (h8 : (r.kind == 8) = false) (n1 : (r.kind != 1) = true) (n7 : (r.kind != 7) = false) (hk : r.kind = 7) (hoT : r.oT = true) (hnT : r.nT = false) (w : World) : Calls Tryz.prog 66 #[.agg #[.int .i64 r.kind, .int .i64 r.tx, .int .u16 r.mask, .int .u8 r.k0, .int .u8 r.k1, .int .u8 r.k2, .int .u8 r.k3, .bool r.oT, .int .i64 r.oN, .bool r.nT, .int .i64 r.nN]] w (EncSays r w) := by
  have hbd := right_bd r hr
  have hh := headN_lt r hr
  have hw : r.kind - 1 + 8 * r.tx = ((headN r : Nat) : Int) := by unfold headN; omega
  have c0 : ∀ W, Calls Tryz.prog 76 #[.agg #[.int .i64 r.kind, .int .i64 r.tx, .int .u16 r.mask, .int .u8 r.k0, .int .u8 r.k1, .int .u8 r.k2, .int .u8 r.k3, .bool r.oT, .int .i64 r.oN, .bool r.nT, .int .i64 r.nN]] W fun e w' => e = .returned (.bool true) ∧ Below W.heap.size W w' := fun W => refRight_any r true hr W
  have he : encL r = bytesL (headN r) 3 ++ [r.k0, r.k1, r.k2, r.k3] ++ [((1 + 4 * (nb (zigN r.oN) - 1) : Nat) : Int)] ++ (valL true r.oN ++ valL false r.nN) := by
    have hfl : flagsN r = 1 + 4 * (nb (zigN r.oN) - 1) := by simp [flagsN, hoT, hnT, bitN, less]
    rw [← hfl]
    simp [encL, tailL, hk, hoT, hnT]
  unfold EncSays
  rw [he]
  have HB := Lib.hid (recBox_new w r)
  obtain ⟨hbd1, hbd2, hbd3, hbd4⟩ := hbd
  have c1 := fun W => small_any r.oN ok.oN W
  have c2 := fun W => small_any r.nN ok.nN W
  have m1 := valL_le true r.oN
  have m2 := valL_le true r.nN
  have e1 : (valL true r.oN).length = nb (zigN r.oN) := valL_length _ _
  have e2 : (valL true r.nN).length = nb (zigN r.nN) := valL_length _ _
  have bd1 := nb_bd (zigN r.oN)
  have bd2 := nb_bd (zigN r.nN)
  have f1 : valL false r.oN = [] := rfl
  have f2 : valL false r.nN = [] := rfl
  rw [e1] at m1
  rw [e2] at m2
  generalize nb (zigN r.oN) = a1 at *
  generalize nb (zigN r.nN) = a2 at *
  generalize valL true r.oN = vo at *
  generalize valL true r.nN = vn at *
  try rw [f1]
  try rw [f2]
  have E1 := Lib.hid e1
  have E2 := Lib.hid e2
  clear e1 e2 f1 f2 hk
  obtain ⟨fl, hfl⟩ : ∃ fl, 1 + 4 * (a1 - 1) = fl := ⟨_, rfl⟩
  have HFL := Lib.hid hfl
  have hfw : IntKind.u8.wrap (1 + 4 * ((a1 : Int) - 1)) = (fl : Int) := by rw [show (1 + 4 * ((a1 : Int) - 1)) = ((fl : Nat) : Int) by omega, u8wrap]; omega
  rw [hfl]
  have HOT := Lib.hid hoT
  have HNT := Lib.hid hnT
  clear hfl hoT hnT
  generalize headN r = h at *
  have b0 := head0 h
  have b1 := head1 h
  have b2 := head2 h hh
  rw [bytes_three h]
  generalize byteAt h 0 = y0 at *
  generalize byteAt h 1 = y1 at *
  generalize byteAt h 2 = y2 at *
  clear hr ok he
  go_enter Tryz.func66, Tryz.ntmps66
  go_wp2_with fail
  (with_reducible refine (c0 _).mono ?_)
  rintro e w1 ⟨rfl, k1⟩
  have rb1 : RecBox w1 w.heap.size r := HB.out.below k1 (by simp)
  have kw1 : Below w.heap.size w w1 := ((Below.refl _ w).alloc (Nat.le_refl _) _).trans (k1.mono (by simp))
  have hs1 := rb1.at_.lt
  clear HB k1 c0
  have q0 : w1.cell? ⟨w.heap.size, 0, none⟩ = some (.int .i64 r.kind) := rb1.at_.c0
  have q1 : w1.cell? ⟨w.heap.size, 1, none⟩ = some (.int .i64 r.tx) := rb1.at_.c1
  have q2 : w1.cell? ⟨w.heap.size, 2, none⟩ = some (.int .u16 r.mask) := rb1.at_.c2
  have q3 : w1.cell? ⟨w.heap.size, 3, none⟩ = some (.int .u8 r.k0) := rb1.at_.c3
  have q4 : w1.cell? ⟨w.heap.size, 4, none⟩ = some (.int .u8 r.k1) := rb1.at_.c4
  have q5 : w1.cell? ⟨w.heap.size, 5, none⟩ = some (.int .u8 r.k2) := rb1.at_.c5
  have q6 : w1.cell? ⟨w.heap.size, 6, none⟩ = some (.int .u8 r.k3) := rb1.at_.c6
  have q7 : w1.cell? ⟨w.heap.size, 7, none⟩ = some (.bool true) := by rw [← HOT.out]; exact rb1.at_.c7
  have q8 : w1.cell? ⟨w.heap.size, 8, none⟩ = some (.int .i64 r.oN) := rb1.at_.c8
  have q9 : w1.cell? ⟨w.heap.size, 9, none⟩ = some (.bool false) := by rw [← HNT.out]; exact rb1.at_.c9
  have q10 : w1.cell? ⟨w.heap.size, 10, none⟩ = some (.int .i64 r.nN) := rb1.at_.c10
  have o1 := owns_lit w1 [(y0 : Int), (y1 : Int), (y2 : Int)]
  have kx : Below w1.heap.size w1 (w1.alloc (.cells #[.int .u8 y0, .int .u8 y1, .int .u8 y2] 5)) := (Below.refl _ _).alloc (Nat.le_refl _) _
  have kx2 : Below (w1.alloc (.cells #[.int .u8 y0, .int .u8 y1, .int .u8 y2] 5)).heap.size (w1.alloc (.cells #[.int .u8 y0, .int .u8 y1, .int .u8 y2] 5)) ((w1.alloc (.cells #[.int .u8 y0, .int .u8 y1, .int .u8 y2] 5)).alloc (.cells #[.int .u8 r.k0, .int .u8 r.k1, .int .u8 r.k2, .int .u8 r.k3] 5)) := (Below.refl _ _).alloc (Nat.le_refl _) _
  have o2 := o1.below kx2
  have g2 := (owns_lit (w1.alloc (.cells #[.int .u8 y0, .int .u8 y1, .int .u8 y2] 5)) [r.k0, r.k1, r.k2, r.k3]).good
  obtain ⟨A2, d2, e2, g2⟩ := g2
  injection e2 with e3 e4 e5
  subst e3 e5
  rw [show (w1.alloc (.cells #[.int .u8 y0, .int .u8 y1, .int .u8 y2] 5)).heap.size = w1.heap.size + 1 by simp] at g2
  have kx3 := below_more kx kx2 (Nat.le_refl _)
  have TL := Lib.hid (fun W : World => owns_lit W [])
  clear e4
  go_wp2_with (at_builtin; refine wpList_appendBg rfl _ _ rfl w1.heap.size _ [(y0 : Int), (y1 : Int), (y2 : Int)] rfl o2 (some ⟨w1.heap.size + 1, 0, none⟩) [r.k0, r.k1, r.k2, r.k3] 4 4 rfl rfl (by omega) g2 (by simp) kx3.size w1 kx3 (fun e => by cases e) ?_; intro v3 w3 o3 n3 _ k3; have rb3 := rb1.below k3 hs1; have hs3 := rb3.at_.lt; obtain ⟨q0, q1, q2, q3, q4, q5, q6, q7', q8, q9', q10⟩ := rb3.at_; have q7 : w3.cell? ⟨w.heap.size, 7, none⟩ = some (.bool true) := (by rw [← HOT.out]; exact q7'); have q9 : w3.cell? ⟨w.heap.size, 9, none⟩ = some (.bool false) := (by rw [← HNT.out]; exact q9'); have t4 := TL.out w3; have kt4 : Below w3.heap.size w3 (w3.alloc (.cells #[] 5)) := (Below.refl _ _).alloc (Nat.le_refl _) _; clear q7' q9' q0 q1 q2 q3 q4 q5 q6 o2 g2 kx2 kx3 o1 kx)
  have Q8 := Lib.hid q8
  have Q9 := Lib.hid q9
  have Q10 := Lib.hid q10
  go_wp2_with fail
  (with_reducible refine (c1 _).mono ?_)
  rintro e w5 ⟨v5, rfl, s5, k5⟩
  obtain ⟨A5, d5, e5, g5⟩ := s5.good
  rw [E1.out] at e5
  subst e5
  have kt5 := below_more kt4 k5 (Nat.le_refl _)
  have t5 := t4.below k5
  clear q8 q9 q10
  have q8 : w5.cell? ⟨w.heap.size, 8, none⟩ = some (.int .i64 r.oN) := (kt5.cell (p := ⟨w.heap.size, 8, none⟩) hs3).trans Q8.out
  have q9 : w5.cell? ⟨w.heap.size, 9, none⟩ = some (.bool false) := (kt5.cell (p := ⟨w.heap.size, 9, none⟩) hs3).trans Q9.out
  have q10 : w5.cell? ⟨w.heap.size, 10, none⟩ = some (.int .i64 r.nN) := (kt5.cell (p := ⟨w.heap.size, 10, none⟩) hs3).trans Q10.out
  go_wp2_with (first | (at_builtin; refine wpList_appendB rfl _ _ rfl w3.heap.size _ ([] : List Int) rfl t5 A5 vo a1 d5 rfl E1.out g5 (by rw [E1.out]; simp; omega) kt5.size w3 kt5 ?_; intro v6 w6 t6 kt6; clear q8 q9 q10; have q8 : w6.cell? ⟨w.heap.size, 8, none⟩ = some (.int .i64 r.oN) := (kt6.cell (p := ⟨w.heap.size, 8, none⟩) hs3).trans Q8.out; have q9 : w6.cell? ⟨w.heap.size, 9, none⟩ = some (.bool false) := (kt6.cell (p := ⟨w.heap.size, 9, none⟩) hs3).trans Q9.out; have q10 : w6.cell? ⟨w.heap.size, 10, none⟩ = some (.int .i64 r.nN) := (kt6.cell (p := ⟨w.heap.size, 10, none⟩) hs3).trans Q10.out; have kf : Below w6.heap.size w6 (w6.alloc (.cells #[.int .u8 (fl : Int)] 5)) := (Below.refl _ _).alloc (Nat.le_refl _) _; have kf3 := below_more kt6 kf (Nat.le_refl _); have o8 := o3.below kf3; have tf := t6.below kf; have gf := (owns_lit w6 [(fl : Int)]).good; obtain ⟨Af, df, ef, gf⟩ := gf; injection ef with ef1 ef2 ef3; subst ef1 ef3; have kf1 := below_more k3 kf3 (Nat.le_refl _); have N3 := Lib.hid n3; clear ef2 n3 kf kf3) | (at_builtin; refine wpList_appendBg rfl _ _ rfl w1.heap.size v3 ([(y0 : Int), (y1 : Int), (y2 : Int)] ++ [r.k0, r.k1, r.k2, r.k3]) rfl o8 (some ⟨w6.heap.size, 0, none⟩) [(fl : Int)] 1 1 rfl rfl (by omega) gf (by simp) kf1.size w1 kf1 N3.out ?_; intro v9 w9 o9 n9 gr k9; have t9 := tail_kept tf o3 (Nat.le_refl _) gr; clear gr n9; obtain ⟨A9, d9, e9, g9⟩ := t9.good; obtain ⟨l9, hl9⟩ : ∃ l, (([] : List Int) ++ vo).length = l := ⟨_, rfl⟩; rw [hl9] at e9; subst e9; have L9 := Lib.hid hl9; have B9 : l9 ≤ 16 := (by rw [← hl9]; rw [List.length_append, E1.out]; simp; omega); clear hl9) | (at_builtin; refine wpList_appendB rfl _ _ rfl w1.heap.size v9 (([(y0 : Int), (y1 : Int), (y2 : Int)] ++ [r.k0, r.k1, r.k2, r.k3]) ++ [(fl : Int)]) rfl o9 A9 (([] : List Int) ++ vo) l9 d9 rfl L9.out g9 (by rw [L9.out]; simp; omega) k9.size w1 k9 ?_; intro v10 w10 o10 k10))
  go_ret2
  have o11 := o10.base kw1.size
  simp only [List.append_assoc, List.nil_append, List.append_nil, List.cons_append] at o11 ⊢
  exact ⟨v10, rfl, o11, below_more kw1 k10 (Nat.le_refl _)⟩
set_option maxRecDepth 100000 in
set_option maxHeartbeats 2000000 in
theorem refEnc_7_ft (r : RecD) (hr : rightB r = true) (ok : okR r) (h2 : (r.kind == 2) = false) (h8 : (r.kind == 8) = false) (n1 : (r.kind != 1) = true) (n7 : (r.kind != 7) = false) (hk : r.kind = 7) (hoT : r.oT = false) (hnT : r.nT = true) (w : World) : Calls Tryz.prog 66 #[.agg #[.int .i64 r.kind, .int .i64 r.tx, .int .u16 r.mask, .int .u8 r.k0, .int .u8 r.k1, .int .u8 r.k2, .int .u8 r.k3, .bool r.oT, .int .i64 r.oN, .bool r.nT, .int .i64 r.nN]] w (EncSays r w) := by
  have hbd := right_bd r hr
  have hh := headN_lt r hr
  have hw : r.kind - 1 + 8 * r.tx = ((headN r : Nat) : Int) := by unfold headN; omega
  have c0 : ∀ W, Calls Tryz.prog 76 #[.agg #[.int .i64 r.kind, .int .i64 r.tx, .int .u16 r.mask, .int .u8 r.k0, .int .u8 r.k1, .int .u8 r.k2, .int .u8 r.k3, .bool r.oT, .int .i64 r.oN, .bool r.nT, .int .i64 r.nN]] W fun e w' => e = .returned (.bool true) ∧ Below W.heap.size W w' := fun W => refRight_any r true hr W
  have he : encL r = bytesL (headN r) 3 ++ [r.k0, r.k1, r.k2, r.k3] ++ [((2 * 1 + 32 * (nb (zigN r.nN) - 1) : Nat) : Int)] ++ (valL false r.oN ++ valL true r.nN) := by
    have hfl : flagsN r = 2 * 1 + 32 * (nb (zigN r.nN) - 1) := by simp [flagsN, hoT, hnT, bitN, less]
    rw [← hfl]
    simp [encL, tailL, hk, hoT, hnT]
  unfold EncSays
  rw [he]
  have HB := Lib.hid (recBox_new w r)
  obtain ⟨hbd1, hbd2, hbd3, hbd4⟩ := hbd
  have c1 := fun W => small_any r.oN ok.oN W
  have c2 := fun W => small_any r.nN ok.nN W
  have m1 := valL_le true r.oN
  have m2 := valL_le true r.nN
  have e1 : (valL true r.oN).length = nb (zigN r.oN) := valL_length _ _
  have e2 : (valL true r.nN).length = nb (zigN r.nN) := valL_length _ _
  have bd1 := nb_bd (zigN r.oN)
  have bd2 := nb_bd (zigN r.nN)
  have f1 : valL false r.oN = [] := rfl
  have f2 : valL false r.nN = [] := rfl
  rw [e1] at m1
  rw [e2] at m2
  generalize nb (zigN r.oN) = a1 at *
  generalize nb (zigN r.nN) = a2 at *
  generalize valL true r.oN = vo at *
  generalize valL true r.nN = vn at *
  try rw [f1]
  try rw [f2]
  have E1 := Lib.hid e1
  have E2 := Lib.hid e2
  clear e1 e2 f1 f2 hk
  obtain ⟨fl, hfl⟩ : ∃ fl, 2 * 1 + 32 * (a2 - 1) = fl := ⟨_, rfl⟩
  have HFL := Lib.hid hfl
  have hfw : IntKind.u8.wrap (2 + 32 * ((a2 : Int) - 1)) = (fl : Int) := by rw [show (2 + 32 * ((a2 : Int) - 1)) = ((fl : Nat) : Int) by omega, u8wrap]; omega
  rw [hfl]
  have HOT := Lib.hid hoT
  have HNT := Lib.hid hnT
  clear hfl hoT hnT
  generalize headN r = h at *
  have b0 := head0 h
  have b1 := head1 h
  have b2 := head2 h hh
  rw [bytes_three h]
  generalize byteAt h 0 = y0 at *
  generalize byteAt h 1 = y1 at *
  generalize byteAt h 2 = y2 at *
  clear hr ok he
  go_enter Tryz.func66, Tryz.ntmps66
  go_wp2_with fail
  (with_reducible refine (c0 _).mono ?_)
  rintro e w1 ⟨rfl, k1⟩
  have rb1 : RecBox w1 w.heap.size r := HB.out.below k1 (by simp)
  have kw1 : Below w.heap.size w w1 := ((Below.refl _ w).alloc (Nat.le_refl _) _).trans (k1.mono (by simp))
  have hs1 := rb1.at_.lt
  clear HB k1 c0
  have q0 : w1.cell? ⟨w.heap.size, 0, none⟩ = some (.int .i64 r.kind) := rb1.at_.c0
  have q1 : w1.cell? ⟨w.heap.size, 1, none⟩ = some (.int .i64 r.tx) := rb1.at_.c1
  have q2 : w1.cell? ⟨w.heap.size, 2, none⟩ = some (.int .u16 r.mask) := rb1.at_.c2
  have q3 : w1.cell? ⟨w.heap.size, 3, none⟩ = some (.int .u8 r.k0) := rb1.at_.c3
  have q4 : w1.cell? ⟨w.heap.size, 4, none⟩ = some (.int .u8 r.k1) := rb1.at_.c4
  have q5 : w1.cell? ⟨w.heap.size, 5, none⟩ = some (.int .u8 r.k2) := rb1.at_.c5
  have q6 : w1.cell? ⟨w.heap.size, 6, none⟩ = some (.int .u8 r.k3) := rb1.at_.c6
  have q7 : w1.cell? ⟨w.heap.size, 7, none⟩ = some (.bool false) := by rw [← HOT.out]; exact rb1.at_.c7
  have q8 : w1.cell? ⟨w.heap.size, 8, none⟩ = some (.int .i64 r.oN) := rb1.at_.c8
  have q9 : w1.cell? ⟨w.heap.size, 9, none⟩ = some (.bool true) := by rw [← HNT.out]; exact rb1.at_.c9
  have q10 : w1.cell? ⟨w.heap.size, 10, none⟩ = some (.int .i64 r.nN) := rb1.at_.c10
  have o1 := owns_lit w1 [(y0 : Int), (y1 : Int), (y2 : Int)]
  have kx : Below w1.heap.size w1 (w1.alloc (.cells #[.int .u8 y0, .int .u8 y1, .int .u8 y2] 5)) := (Below.refl _ _).alloc (Nat.le_refl _) _
  have kx2 : Below (w1.alloc (.cells #[.int .u8 y0, .int .u8 y1, .int .u8 y2] 5)).heap.size (w1.alloc (.cells #[.int .u8 y0, .int .u8 y1, .int .u8 y2] 5)) ((w1.alloc (.cells #[.int .u8 y0, .int .u8 y1, .int .u8 y2] 5)).alloc (.cells #[.int .u8 r.k0, .int .u8 r.k1, .int .u8 r.k2, .int .u8 r.k3] 5)) := (Below.refl _ _).alloc (Nat.le_refl _) _
  have o2 := o1.below kx2
  have g2 := (owns_lit (w1.alloc (.cells #[.int .u8 y0, .int .u8 y1, .int .u8 y2] 5)) [r.k0, r.k1, r.k2, r.k3]).good
  obtain ⟨A2, d2, e2, g2⟩ := g2
  injection e2 with e3 e4 e5
  subst e3 e5
  rw [show (w1.alloc (.cells #[.int .u8 y0, .int .u8 y1, .int .u8 y2] 5)).heap.size = w1.heap.size + 1 by simp] at g2
  have kx3 := below_more kx kx2 (Nat.le_refl _)
  have TL := Lib.hid (fun W : World => owns_lit W [])
  clear e4
  go_wp2_with (at_builtin; refine wpList_appendBg rfl _ _ rfl w1.heap.size _ [(y0 : Int), (y1 : Int), (y2 : Int)] rfl o2 (some ⟨w1.heap.size + 1, 0, none⟩) [r.k0, r.k1, r.k2, r.k3] 4 4 rfl rfl (by omega) g2 (by simp) kx3.size w1 kx3 (fun e => by cases e) ?_; intro v3 w3 o3 n3 _ k3; have rb3 := rb1.below k3 hs1; have hs3 := rb3.at_.lt; obtain ⟨q0, q1, q2, q3, q4, q5, q6, q7', q8, q9', q10⟩ := rb3.at_; have q7 : w3.cell? ⟨w.heap.size, 7, none⟩ = some (.bool false) := (by rw [← HOT.out]; exact q7'); have q9 : w3.cell? ⟨w.heap.size, 9, none⟩ = some (.bool true) := (by rw [← HNT.out]; exact q9'); have t4 := TL.out w3; have kt4 : Below w3.heap.size w3 (w3.alloc (.cells #[] 5)) := (Below.refl _ _).alloc (Nat.le_refl _) _; clear q7' q9' q0 q1 q2 q3 q4 q5 q6 o2 g2 kx2 kx3 o1 kx)
  have Q8 := Lib.hid q8
  have Q9 := Lib.hid q9
  have Q10 := Lib.hid q10
  go_wp2_with fail
  (with_reducible refine (c2 _).mono ?_)
  rintro e w5 ⟨v5, rfl, s5, k5⟩
  obtain ⟨A5, d5, e5, g5⟩ := s5.good
  rw [E2.out] at e5
  subst e5
  have kt5 := below_more kt4 k5 (Nat.le_refl _)
  have t5 := t4.below k5
  clear q8 q9 q10
  have q8 : w5.cell? ⟨w.heap.size, 8, none⟩ = some (.int .i64 r.oN) := (kt5.cell (p := ⟨w.heap.size, 8, none⟩) hs3).trans Q8.out
  have q9 : w5.cell? ⟨w.heap.size, 9, none⟩ = some (.bool true) := (kt5.cell (p := ⟨w.heap.size, 9, none⟩) hs3).trans Q9.out
  have q10 : w5.cell? ⟨w.heap.size, 10, none⟩ = some (.int .i64 r.nN) := (kt5.cell (p := ⟨w.heap.size, 10, none⟩) hs3).trans Q10.out
  go_wp2_with (first | (at_builtin; refine wpList_appendB rfl _ _ rfl w3.heap.size _ ([] : List Int) rfl t5 A5 vn a2 d5 rfl E2.out g5 (by rw [E2.out]; simp; omega) kt5.size w3 kt5 ?_; intro v6 w6 t6 kt6; clear q8 q9 q10; have q8 : w6.cell? ⟨w.heap.size, 8, none⟩ = some (.int .i64 r.oN) := (kt6.cell (p := ⟨w.heap.size, 8, none⟩) hs3).trans Q8.out; have q9 : w6.cell? ⟨w.heap.size, 9, none⟩ = some (.bool true) := (kt6.cell (p := ⟨w.heap.size, 9, none⟩) hs3).trans Q9.out; have q10 : w6.cell? ⟨w.heap.size, 10, none⟩ = some (.int .i64 r.nN) := (kt6.cell (p := ⟨w.heap.size, 10, none⟩) hs3).trans Q10.out; have kf : Below w6.heap.size w6 (w6.alloc (.cells #[.int .u8 (fl : Int)] 5)) := (Below.refl _ _).alloc (Nat.le_refl _) _; have kf3 := below_more kt6 kf (Nat.le_refl _); have o8 := o3.below kf3; have tf := t6.below kf; have gf := (owns_lit w6 [(fl : Int)]).good; obtain ⟨Af, df, ef, gf⟩ := gf; injection ef with ef1 ef2 ef3; subst ef1 ef3; have kf1 := below_more k3 kf3 (Nat.le_refl _); have N3 := Lib.hid n3; clear ef2 n3 kf kf3) | (at_builtin; refine wpList_appendBg rfl _ _ rfl w1.heap.size v3 ([(y0 : Int), (y1 : Int), (y2 : Int)] ++ [r.k0, r.k1, r.k2, r.k3]) rfl o8 (some ⟨w6.heap.size, 0, none⟩) [(fl : Int)] 1 1 rfl rfl (by omega) gf (by simp) kf1.size w1 kf1 N3.out ?_; intro v9 w9 o9 n9 gr k9; have t9 := tail_kept tf o3 (Nat.le_refl _) gr; clear gr n9; obtain ⟨A9, d9, e9, g9⟩ := t9.good; obtain ⟨l9, hl9⟩ : ∃ l, (([] : List Int) ++ vn).length = l := ⟨_, rfl⟩; rw [hl9] at e9; subst e9; have L9 := Lib.hid hl9; have B9 : l9 ≤ 16 := (by rw [← hl9]; rw [List.length_append, E2.out]; simp; omega); clear hl9) | (at_builtin; refine wpList_appendB rfl _ _ rfl w1.heap.size v9 (([(y0 : Int), (y1 : Int), (y2 : Int)] ++ [r.k0, r.k1, r.k2, r.k3]) ++ [(fl : Int)]) rfl o9 A9 (([] : List Int) ++ vn) l9 d9 rfl L9.out g9 (by rw [L9.out]; simp; omega) k9.size w1 k9 ?_; intro v10 w10 o10 k10))
  go_ret2
  have o11 := o10.base kw1.size
  simp only [List.append_assoc, List.nil_append, List.append_nil, List.cons_append] at o11 ⊢
  exact ⟨v10, rfl, o11, below_more kw1 k10 (Nat.le_refl _)⟩
set_option maxRecDepth 100000 in
set_option maxHeartbeats 2000000 in
theorem refEnc_7_ff (r : RecD) (hr : rightB r = true) (ok : okR r) (h2 : (r.kind == 2) = false) (h8 : (r.kind == 8) = false) (n1 : (r.kind != 1) = true) (n7 : (r.kind != 7) = false) (hk : r.kind = 7) (hoT : r.oT = false) (hnT : r.nT = false) (w : World) : Calls Tryz.prog 66 #[.agg #[.int .i64 r.kind, .int .i64 r.tx, .int .u16 r.mask, .int .u8 r.k0, .int .u8 r.k1, .int .u8 r.k2, .int .u8 r.k3, .bool r.oT, .int .i64 r.oN, .bool r.nT, .int .i64 r.nN]] w (EncSays r w) := by
  have hbd := right_bd r hr
  have hh := headN_lt r hr
  have hw : r.kind - 1 + 8 * r.tx = ((headN r : Nat) : Int) := by unfold headN; omega
  have c0 : ∀ W, Calls Tryz.prog 76 #[.agg #[.int .i64 r.kind, .int .i64 r.tx, .int .u16 r.mask, .int .u8 r.k0, .int .u8 r.k1, .int .u8 r.k2, .int .u8 r.k3, .bool r.oT, .int .i64 r.oN, .bool r.nT, .int .i64 r.nN]] W fun e w' => e = .returned (.bool true) ∧ Below W.heap.size W w' := fun W => refRight_any r true hr W
  have he : encL r = bytesL (headN r) 3 ++ [r.k0, r.k1, r.k2, r.k3] ++ [((0 : Nat) : Int)] ++ (valL false r.oN ++ valL false r.nN) := by
    have hfl : flagsN r = 0 := by simp [flagsN, hoT, hnT, bitN, less]
    rw [← hfl]
    simp [encL, tailL, hk, hoT, hnT]
  unfold EncSays
  rw [he]
  have HB := Lib.hid (recBox_new w r)
  obtain ⟨hbd1, hbd2, hbd3, hbd4⟩ := hbd
  have c1 := fun W => small_any r.oN ok.oN W
  have c2 := fun W => small_any r.nN ok.nN W
  have m1 := valL_le true r.oN
  have m2 := valL_le true r.nN
  have e1 : (valL true r.oN).length = nb (zigN r.oN) := valL_length _ _
  have e2 : (valL true r.nN).length = nb (zigN r.nN) := valL_length _ _
  have bd1 := nb_bd (zigN r.oN)
  have bd2 := nb_bd (zigN r.nN)
  have f1 : valL false r.oN = [] := rfl
  have f2 : valL false r.nN = [] := rfl
  rw [e1] at m1
  rw [e2] at m2
  generalize nb (zigN r.oN) = a1 at *
  generalize nb (zigN r.nN) = a2 at *
  generalize valL true r.oN = vo at *
  generalize valL true r.nN = vn at *
  try rw [f1]
  try rw [f2]
  have E1 := Lib.hid e1
  have E2 := Lib.hid e2
  clear e1 e2 f1 f2 hk
  obtain ⟨fl, hfl⟩ : ∃ fl, 0 = fl := ⟨_, rfl⟩
  have HFL := Lib.hid hfl
  have hfw : IntKind.u8.wrap 0 = (fl : Int) := by rw [show (0 : Int) = ((fl : Nat) : Int) by omega, u8wrap]; omega
  rw [hfl]
  have HOT := Lib.hid hoT
  have HNT := Lib.hid hnT
  clear hfl hoT hnT
  generalize headN r = h at *
  have b0 := head0 h
  have b1 := head1 h
  have b2 := head2 h hh
  rw [bytes_three h]
  generalize byteAt h 0 = y0 at *
  generalize byteAt h 1 = y1 at *
  generalize byteAt h 2 = y2 at *
  clear hr ok he
  go_enter Tryz.func66, Tryz.ntmps66
  go_wp2_with fail
  (with_reducible refine (c0 _).mono ?_)
  rintro e w1 ⟨rfl, k1⟩
  have rb1 : RecBox w1 w.heap.size r := HB.out.below k1 (by simp)
  have kw1 : Below w.heap.size w w1 := ((Below.refl _ w).alloc (Nat.le_refl _) _).trans (k1.mono (by simp))
  have hs1 := rb1.at_.lt
  clear HB k1 c0
  have q0 : w1.cell? ⟨w.heap.size, 0, none⟩ = some (.int .i64 r.kind) := rb1.at_.c0
  have q1 : w1.cell? ⟨w.heap.size, 1, none⟩ = some (.int .i64 r.tx) := rb1.at_.c1
  have q2 : w1.cell? ⟨w.heap.size, 2, none⟩ = some (.int .u16 r.mask) := rb1.at_.c2
  have q3 : w1.cell? ⟨w.heap.size, 3, none⟩ = some (.int .u8 r.k0) := rb1.at_.c3
  have q4 : w1.cell? ⟨w.heap.size, 4, none⟩ = some (.int .u8 r.k1) := rb1.at_.c4
  have q5 : w1.cell? ⟨w.heap.size, 5, none⟩ = some (.int .u8 r.k2) := rb1.at_.c5
  have q6 : w1.cell? ⟨w.heap.size, 6, none⟩ = some (.int .u8 r.k3) := rb1.at_.c6
  have q7 : w1.cell? ⟨w.heap.size, 7, none⟩ = some (.bool false) := by rw [← HOT.out]; exact rb1.at_.c7
  have q8 : w1.cell? ⟨w.heap.size, 8, none⟩ = some (.int .i64 r.oN) := rb1.at_.c8
  have q9 : w1.cell? ⟨w.heap.size, 9, none⟩ = some (.bool false) := by rw [← HNT.out]; exact rb1.at_.c9
  have q10 : w1.cell? ⟨w.heap.size, 10, none⟩ = some (.int .i64 r.nN) := rb1.at_.c10
  have o1 := owns_lit w1 [(y0 : Int), (y1 : Int), (y2 : Int)]
  have kx : Below w1.heap.size w1 (w1.alloc (.cells #[.int .u8 y0, .int .u8 y1, .int .u8 y2] 5)) := (Below.refl _ _).alloc (Nat.le_refl _) _
  have kx2 : Below (w1.alloc (.cells #[.int .u8 y0, .int .u8 y1, .int .u8 y2] 5)).heap.size (w1.alloc (.cells #[.int .u8 y0, .int .u8 y1, .int .u8 y2] 5)) ((w1.alloc (.cells #[.int .u8 y0, .int .u8 y1, .int .u8 y2] 5)).alloc (.cells #[.int .u8 r.k0, .int .u8 r.k1, .int .u8 r.k2, .int .u8 r.k3] 5)) := (Below.refl _ _).alloc (Nat.le_refl _) _
  have o2 := o1.below kx2
  have g2 := (owns_lit (w1.alloc (.cells #[.int .u8 y0, .int .u8 y1, .int .u8 y2] 5)) [r.k0, r.k1, r.k2, r.k3]).good
  obtain ⟨A2, d2, e2, g2⟩ := g2
  injection e2 with e3 e4 e5
  subst e3 e5
  rw [show (w1.alloc (.cells #[.int .u8 y0, .int .u8 y1, .int .u8 y2] 5)).heap.size = w1.heap.size + 1 by simp] at g2
  have kx3 := below_more kx kx2 (Nat.le_refl _)
  have TL := Lib.hid (fun W : World => owns_lit W [])
  clear e4
  go_wp2_with (first | (at_builtin; refine wpList_appendBg rfl _ _ rfl w1.heap.size _ [(y0 : Int), (y1 : Int), (y2 : Int)] rfl o2 (some ⟨w1.heap.size + 1, 0, none⟩) [r.k0, r.k1, r.k2, r.k3] 4 4 rfl rfl (by omega) g2 (by simp) kx3.size w1 kx3 (fun e => by cases e) ?_; intro v3 w3 o3 n3 _ k3; have rb3 := rb1.below k3 hs1; have hs3 := rb3.at_.lt; obtain ⟨q0, q1, q2, q3, q4, q5, q6, q7', q8, q9', q10⟩ := rb3.at_; have q7 : w3.cell? ⟨w.heap.size, 7, none⟩ = some (.bool false) := (by rw [← HOT.out]; exact q7'); have q9 : w3.cell? ⟨w.heap.size, 9, none⟩ = some (.bool false) := (by rw [← HNT.out]; exact q9'); have t4 := TL.out w3; have kt4 : Below w3.heap.size w3 (w3.alloc (.cells #[] 5)) := (Below.refl _ _).alloc (Nat.le_refl _) _; clear q7' q9' q0 q1 q2 q3 q4 q5 q6 o2 g2 kx2 kx3 o1 kx; have kf : Below (w3.alloc (.cells #[] 5)).heap.size (w3.alloc (.cells #[] 5)) ((w3.alloc (.cells #[] 5)).alloc (.cells #[.int .u8 (fl : Int)] 5)) := (Below.refl _ _).alloc (Nat.le_refl _) _; have kf3 := below_more kt4 kf (Nat.le_refl _); have o8 := o3.below kf3; have tf := t4.below kf; have gf := (owns_lit (w3.alloc (.cells #[] 5)) [(fl : Int)]).good; obtain ⟨Af, df, ef, gf⟩ := gf; injection ef with ef1 ef2 ef3; subst ef1 ef3; have kf1 := below_more k3 kf3 (Nat.le_refl _); have N3 := Lib.hid n3; clear ef2 n3 kf kf3; rw [show (w3.alloc (.cells #[] 5)).heap.size = w3.heap.size + 1 by simp] at gf) | (at_builtin; refine wpList_appendBg rfl _ _ rfl w1.heap.size v3 ([(y0 : Int), (y1 : Int), (y2 : Int)] ++ [r.k0, r.k1, r.k2, r.k3]) rfl o8 (some ⟨w3.heap.size + 1, 0, none⟩) [(fl : Int)] 1 1 rfl rfl (by omega) gf (by simp) kf1.size w1 kf1 N3.out ?_; intro v9 w9 o9 n9 gr k9; have t9 := tail_kept tf o3 (Nat.le_refl _) gr; clear gr n9; obtain ⟨A9, d9, e9, g9⟩ := t9.good; injection e9 with ea eb ec; subst ea ec; clear eb) | (at_builtin; refine wpList_appendB rfl _ _ rfl w1.heap.size v9 (([(y0 : Int), (y1 : Int), (y2 : Int)] ++ [r.k0, r.k1, r.k2, r.k3]) ++ [(fl : Int)]) rfl o9 (some ⟨w3.heap.size, 0, none⟩) ([] : List Int) 0 0 rfl rfl g9 (by simp) k9.size w1 k9 ?_; intro v10 w10 o10 k10))
  go_ret2
  have o11 := o10.base kw1.size
  simp only [List.append_assoc, List.nil_append, List.append_nil, List.cons_append] at o11 ⊢
  exact ⟨v10, rfl, o11, below_more kw1 k10 (Nat.le_refl _)⟩
theorem refEnc_yes (r : RecD) (hr : rightB r = true) (ok : okR r) (w : World) : Calls Tryz.prog 66 #[.agg #[.int .i64 r.kind, .int .i64 r.tx, .int .u16 r.mask, .int .u8 r.k0, .int .u8 r.k1, .int .u8 r.k2, .int .u8 r.k3, .bool r.oT, .int .i64 r.oN, .bool r.nT, .int .i64 r.nN]] w (EncSays r w) := by
  cases h2 : (r.kind == 2)
  · cases h8 : (r.kind == 8)
    · cases h1 : (r.kind == 1)
      · cases h7 : (r.kind == 7)
        · exact refEnc_plain r hr ok h2 h8 h1 h7 (by simp at h1 ⊢; exact h1) (by simp at h7 ⊢; exact h7) w
        · have hk : r.kind = 7 := by simpa using h7
          rcases Bool.eq_false_or_eq_true r.oT with hoT | hoT <;> rcases Bool.eq_false_or_eq_true r.nT with hnT | hnT
          · exact refEnc_7_tt r hr ok h2 h8 (by simp [hk]) (by simp [hk]) hk hoT hnT w
          · exact refEnc_7_tf r hr ok h2 h8 (by simp [hk]) (by simp [hk]) hk hoT hnT w
          · exact refEnc_7_ft r hr ok h2 h8 (by simp [hk]) (by simp [hk]) hk hoT hnT w
          · exact refEnc_7_ff r hr ok h2 h8 (by simp [hk]) (by simp [hk]) hk hoT hnT w
      · have hk : r.kind = 1 := by simpa using h1
        rcases Bool.eq_false_or_eq_true r.oT with hoT | hoT <;> rcases Bool.eq_false_or_eq_true r.nT with hnT | hnT
        · exact refEnc_1_tt r hr ok h2 h8 (by simp [hk]) hk hoT hnT w
        · exact refEnc_1_tf r hr ok h2 h8 (by simp [hk]) hk hoT hnT w
        · exact refEnc_1_ft r hr ok h2 h8 (by simp [hk]) hk hoT hnT w
        · exact refEnc_1_ff r hr ok h2 h8 (by simp [hk]) hk hoT hnT w
    · exact refEnc_8 r hr ok h2 h8 w
  · exact refEnc_2 r hr ok h2 w
set_option maxHeartbeats 1000000 in
theorem refEnc_no (r : RecD) (hr : rightB r = false) (w : World) : Calls Tryz.prog 66 #[.agg #[.int .i64 r.kind, .int .i64 r.tx, .int .u16 r.mask, .int .u8 r.k0, .int .u8 r.k1, .int .u8 r.k2, .int .u8 r.k3, .bool r.oT, .int .i64 r.oN, .bool r.nT, .int .i64 r.nN]] w fun e w' => e = .returned (.tuple #[.slice none 0 0, .bool false]) ∧ Below w.heap.size w w' := by
  have c0 : ∀ W, Calls Tryz.prog 76 #[.agg #[.int .i64 r.kind, .int .i64 r.tx, .int .u16 r.mask, .int .u8 r.k0, .int .u8 r.k1, .int .u8 r.k2, .int .u8 r.k3, .bool r.oT, .int .i64 r.oN, .bool r.nT, .int .i64 r.nN]] W fun e w' => e = .returned (.bool false) ∧ Below W.heap.size W w' := fun W => refRight_any r false hr W
  go_enter Tryz.func66, Tryz.ntmps66
  go_wp2_with fail
  refine (c0 _).mono ?_
  rintro e w1 ⟨rfl, b1⟩
  go_wp2
  go_ret2
  exact ⟨rfl, ((Below.refl _ _).alloc (Nat.le_refl _) _).trans (b1.mono (by simp))⟩
end Go.Proofs.YtdmkkfpbgpijjaaGreat
