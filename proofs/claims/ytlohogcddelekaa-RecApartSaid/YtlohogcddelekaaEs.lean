/- The walk of the statement RecApart: it returns true, for every input. -/
import Derived.Test.YtlohogcddelekaaEq
namespace Go.Proofs.Ytlohogcddelekaa
open Go.RowKit Go.Deep
set_option linter.unusedVariables false

theorem box2 (w : World) (r s : RecD) : RecBox ((w.alloc (.cells #[.int .i64 r.kind, .int .i64 r.tx, .int .u16 r.mask, .int .u8 r.k0, .int .u8 r.k1, .int .u8 r.k2, .int .u8 r.k3, .bool r.oT, .int .i64 r.oN, .bool r.nT, .int .i64 r.nN] 32)).alloc (.cells #[.int .i64 s.kind, .int .i64 s.tx, .int .u16 s.mask, .int .u8 s.k0, .int .u8 s.k1, .int .u8 s.k2, .int .u8 s.k3, .bool s.oT, .int .i64 s.oN, .bool s.nT, .int .i64 s.nN] 32)) w.heap.size r ∧ RecBox ((w.alloc (.cells #[.int .i64 r.kind, .int .i64 r.tx, .int .u16 r.mask, .int .u8 r.k0, .int .u8 r.k1, .int .u8 r.k2, .int .u8 r.k3, .bool r.oT, .int .i64 r.oN, .bool r.nT, .int .i64 r.nN] 32)).alloc (.cells #[.int .i64 s.kind, .int .i64 s.tx, .int .u16 s.mask, .int .u8 s.k0, .int .u8 s.k1, .int .u8 s.k2, .int .u8 s.k3, .bool s.oT, .int .i64 s.oN, .bool s.nT, .int .i64 s.nN] 32)) (w.heap.size + 1) s ∧ Below w.heap.size w ((w.alloc (.cells #[.int .i64 r.kind, .int .i64 r.tx, .int .u16 r.mask, .int .u8 r.k0, .int .u8 r.k1, .int .u8 r.k2, .int .u8 r.k3, .bool r.oT, .int .i64 r.oN, .bool r.nT, .int .i64 r.nN] 32)).alloc (.cells #[.int .i64 s.kind, .int .i64 s.tx, .int .u16 s.mask, .int .u8 s.k0, .int .u8 s.k1, .int .u8 s.k2, .int .u8 s.k3, .bool s.oT, .int .i64 s.oN, .bool s.nT, .int .i64 s.nN] 32)) := by
  refine ⟨(recBox_new w r).below ((Below.refl _ _).alloc (Nat.le_refl _) _) (by simp), ?_, below2 _ _ _⟩
  have := recBox_new (w.alloc (.cells #[.int .i64 r.kind, .int .i64 r.tx, .int .u16 r.mask, .int .u8 r.k0, .int .u8 r.k1, .int .u8 r.k2, .int .u8 r.k3, .bool r.oT, .int .i64 r.oN, .bool r.nT, .int .i64 r.nN] 32)) s
  rw [show (w.alloc (.cells #[.int .i64 r.kind, .int .i64 r.tx, .int .u16 r.mask, .int .u8 r.k0, .int .u8 r.k1, .int .u8 r.k2, .int .u8 r.k3, .bool r.oT, .int .i64 r.oN, .bool r.nT, .int .i64 r.nN] 32)).heap.size = w.heap.size + 1 by simp] at this
  exact this
theorem apart_eq (r s : RecD) (hr : rightB r = true) (hs : rightB s = true) (okr : okR r) (oks : okR s) : (encL r == (encL s).take (encL r).length) = eqR r s := by
  rw [Bool.eq_iff_iff, beq_iff_eq, eqR_iff]
  constructor
  · intro e
    exact enc_apart r s hr hs okr oks (by rw [e]; exact List.take_prefix _ _)
  · rintro rfl
    rw [List.take_length]
set_option maxRecDepth 100000 in
set_option maxHeartbeats 1000000 in
theorem ra_ny (r s : RecD) (hr : rightB r = false) (hs : rightB s = true) (oks : okR s) (ls : Nat) (ls_ : (encL s).length = ls) (w : World) : Calls Try.prog 5 #[.agg #[.int .i64 r.kind, .int .i64 r.tx, .int .u16 r.mask, .int .u8 r.k0, .int .u8 r.k1, .int .u8 r.k2, .int .u8 r.k3, .bool r.oT, .int .i64 r.oN, .bool r.nT, .int .i64 r.nN], .agg #[.int .i64 s.kind, .int .i64 s.tx, .int .u16 s.mask, .int .u8 s.k0, .int .u8 s.k1, .int .u8 s.k2, .int .u8 s.k3, .bool s.oT, .int .i64 s.oN, .bool s.nT, .int .i64 s.nN]] w fun e w' => e = .returned (.bool true) ∧ Below w.heap.size w w' := by
  have lls := ls_
  have c0 : ∀ W, Calls Try.prog 8 #[] W fun e w' => e = .returned (.bool true) ∧ Below W.heap.size W w' := fun W => alive_any W
  have c1 : ∀ W, Calls Try.prog 16 #[.agg #[.int .i64 r.kind, .int .i64 r.tx, .int .u16 r.mask, .int .u8 r.k0, .int .u8 r.k1, .int .u8 r.k2, .int .u8 r.k3, .bool r.oT, .int .i64 r.oN, .bool r.nT, .int .i64 r.nN]] W fun e w' => e = .returned (.tuple #[.slice none 0 0, .bool false]) ∧ Below W.heap.size W w' := fun W => enc_no r hr W
  have c2 : ∀ W, Calls Try.prog 16 #[.agg #[.int .i64 s.kind, .int .i64 s.tx, .int .u16 s.mask, .int .u8 s.k0, .int .u8 s.k1, .int .u8 s.k2, .int .u8 s.k3, .bool s.oT, .int .i64 s.oN, .bool s.nT, .int .i64 s.nN]] W fun e w' => ∃ A2 c2, e = .returned (.tuple #[.slice A2 ls c2, .bool true]) ∧ Good A2 c2 (encL s) w' ∧ Below W.heap.size W w' := fun W => by
    refine (enc_yes s hs oks W).mono ?_
    rintro e w' ⟨v, rfl, o, k⟩
    obtain ⟨A2, c2, rfl, g2⟩ := o.good
    exact ⟨A2, c2, by rw [lls], g2, k⟩
  have HB := Lib.hid (box2 w r s)
  go_enter Try.func5, Try.ntmps5
  go_wp2_with fail
  (with_reducible refine (c0 _).mono ?_)
  rintro e w1 ⟨rfl, k1⟩
  have ra1 : RecBox w1 w.heap.size r := HB.out.1.below k1 HB.out.1.at_.lt
  have rb1 : RecBox w1 (w.heap.size + 1) s := HB.out.2.1.below k1 HB.out.2.1.at_.lt
  have kw1 : Below w.heap.size w w1 := below_more HB.out.2.2 k1 (Nat.le_refl _)
  clear HB k1 c0
  have p0 : w1.cell? ⟨w.heap.size, 0, none⟩ = some (.int .i64 r.kind) := ra1.at_.c0
  have p1 : w1.cell? ⟨w.heap.size, 1, none⟩ = some (.int .i64 r.tx) := ra1.at_.c1
  have p2 : w1.cell? ⟨w.heap.size, 2, none⟩ = some (.int .u16 r.mask) := ra1.at_.c2
  have p3 : w1.cell? ⟨w.heap.size, 3, none⟩ = some (.int .u8 r.k0) := ra1.at_.c3
  have p4 : w1.cell? ⟨w.heap.size, 4, none⟩ = some (.int .u8 r.k1) := ra1.at_.c4
  have p5 : w1.cell? ⟨w.heap.size, 5, none⟩ = some (.int .u8 r.k2) := ra1.at_.c5
  have p6 : w1.cell? ⟨w.heap.size, 6, none⟩ = some (.int .u8 r.k3) := ra1.at_.c6
  have p7 : w1.cell? ⟨w.heap.size, 7, none⟩ = some (.bool r.oT) := ra1.at_.c7
  have p8 : w1.cell? ⟨w.heap.size, 8, none⟩ = some (.int .i64 r.oN) := ra1.at_.c8
  have p9 : w1.cell? ⟨w.heap.size, 9, none⟩ = some (.bool r.nT) := ra1.at_.c9
  have p10 : w1.cell? ⟨w.heap.size, 10, none⟩ = some (.int .i64 r.nN) := ra1.at_.c10
  go_wp2_with fail
  (with_reducible refine (c1 _).mono ?_)
  rintro e w2 ⟨rfl, k2⟩
  have ra2 := ra1.below k2 ra1.at_.lt
  have rb2 := rb1.below k2 rb1.at_.lt
  have kw2 := below_more kw1 k2 (Nat.le_refl _)
  clear ra1 rb1 kw1 c1 p0 p1 p2 p3 p4 p5 p6 p7 p8 p9 p10
  have q0 : w2.cell? ⟨w.heap.size + 1, 0, none⟩ = some (.int .i64 s.kind) := rb2.at_.c0
  have q1 : w2.cell? ⟨w.heap.size + 1, 1, none⟩ = some (.int .i64 s.tx) := rb2.at_.c1
  have q2 : w2.cell? ⟨w.heap.size + 1, 2, none⟩ = some (.int .u16 s.mask) := rb2.at_.c2
  have q3 : w2.cell? ⟨w.heap.size + 1, 3, none⟩ = some (.int .u8 s.k0) := rb2.at_.c3
  have q4 : w2.cell? ⟨w.heap.size + 1, 4, none⟩ = some (.int .u8 s.k1) := rb2.at_.c4
  have q5 : w2.cell? ⟨w.heap.size + 1, 5, none⟩ = some (.int .u8 s.k2) := rb2.at_.c5
  have q6 : w2.cell? ⟨w.heap.size + 1, 6, none⟩ = some (.int .u8 s.k3) := rb2.at_.c6
  have q7 : w2.cell? ⟨w.heap.size + 1, 7, none⟩ = some (.bool s.oT) := rb2.at_.c7
  have q8 : w2.cell? ⟨w.heap.size + 1, 8, none⟩ = some (.int .i64 s.oN) := rb2.at_.c8
  have q9 : w2.cell? ⟨w.heap.size + 1, 9, none⟩ = some (.bool s.nT) := rb2.at_.c9
  have q10 : w2.cell? ⟨w.heap.size + 1, 10, none⟩ = some (.int .i64 s.nN) := rb2.at_.c10
  go_wp2_with fail
  (with_reducible refine (c2 _).mono ?_)
  rintro e w3 ⟨A3, d3, rfl, g3, k3⟩
  have kw3 := below_more kw2 k3 (Nat.le_refl _)
  go_wp2
  go_ret
  exact ⟨rfl, kw3⟩
set_option maxRecDepth 100000 in
set_option maxHeartbeats 1000000 in
theorem ra_nn (r s : RecD) (hr : rightB r = false) (hs : rightB s = false) (w : World) : Calls Try.prog 5 #[.agg #[.int .i64 r.kind, .int .i64 r.tx, .int .u16 r.mask, .int .u8 r.k0, .int .u8 r.k1, .int .u8 r.k2, .int .u8 r.k3, .bool r.oT, .int .i64 r.oN, .bool r.nT, .int .i64 r.nN], .agg #[.int .i64 s.kind, .int .i64 s.tx, .int .u16 s.mask, .int .u8 s.k0, .int .u8 s.k1, .int .u8 s.k2, .int .u8 s.k3, .bool s.oT, .int .i64 s.oN, .bool s.nT, .int .i64 s.nN]] w fun e w' => e = .returned (.bool true) ∧ Below w.heap.size w w' := by
  have c0 : ∀ W, Calls Try.prog 8 #[] W fun e w' => e = .returned (.bool true) ∧ Below W.heap.size W w' := fun W => alive_any W
  have c1 : ∀ W, Calls Try.prog 16 #[.agg #[.int .i64 r.kind, .int .i64 r.tx, .int .u16 r.mask, .int .u8 r.k0, .int .u8 r.k1, .int .u8 r.k2, .int .u8 r.k3, .bool r.oT, .int .i64 r.oN, .bool r.nT, .int .i64 r.nN]] W fun e w' => e = .returned (.tuple #[.slice none 0 0, .bool false]) ∧ Below W.heap.size W w' := fun W => enc_no r hr W
  have c2 : ∀ W, Calls Try.prog 16 #[.agg #[.int .i64 s.kind, .int .i64 s.tx, .int .u16 s.mask, .int .u8 s.k0, .int .u8 s.k1, .int .u8 s.k2, .int .u8 s.k3, .bool s.oT, .int .i64 s.oN, .bool s.nT, .int .i64 s.nN]] W fun e w' => e = .returned (.tuple #[.slice none 0 0, .bool false]) ∧ Below W.heap.size W w' := fun W => enc_no s hs W
  have HB := Lib.hid (box2 w r s)
  go_enter Try.func5, Try.ntmps5
  go_wp2_with fail
  (with_reducible refine (c0 _).mono ?_)
  rintro e w1 ⟨rfl, k1⟩
  have ra1 : RecBox w1 w.heap.size r := HB.out.1.below k1 HB.out.1.at_.lt
  have rb1 : RecBox w1 (w.heap.size + 1) s := HB.out.2.1.below k1 HB.out.2.1.at_.lt
  have kw1 : Below w.heap.size w w1 := below_more HB.out.2.2 k1 (Nat.le_refl _)
  clear HB k1 c0
  have p0 : w1.cell? ⟨w.heap.size, 0, none⟩ = some (.int .i64 r.kind) := ra1.at_.c0
  have p1 : w1.cell? ⟨w.heap.size, 1, none⟩ = some (.int .i64 r.tx) := ra1.at_.c1
  have p2 : w1.cell? ⟨w.heap.size, 2, none⟩ = some (.int .u16 r.mask) := ra1.at_.c2
  have p3 : w1.cell? ⟨w.heap.size, 3, none⟩ = some (.int .u8 r.k0) := ra1.at_.c3
  have p4 : w1.cell? ⟨w.heap.size, 4, none⟩ = some (.int .u8 r.k1) := ra1.at_.c4
  have p5 : w1.cell? ⟨w.heap.size, 5, none⟩ = some (.int .u8 r.k2) := ra1.at_.c5
  have p6 : w1.cell? ⟨w.heap.size, 6, none⟩ = some (.int .u8 r.k3) := ra1.at_.c6
  have p7 : w1.cell? ⟨w.heap.size, 7, none⟩ = some (.bool r.oT) := ra1.at_.c7
  have p8 : w1.cell? ⟨w.heap.size, 8, none⟩ = some (.int .i64 r.oN) := ra1.at_.c8
  have p9 : w1.cell? ⟨w.heap.size, 9, none⟩ = some (.bool r.nT) := ra1.at_.c9
  have p10 : w1.cell? ⟨w.heap.size, 10, none⟩ = some (.int .i64 r.nN) := ra1.at_.c10
  go_wp2_with fail
  (with_reducible refine (c1 _).mono ?_)
  rintro e w2 ⟨rfl, k2⟩
  have ra2 := ra1.below k2 ra1.at_.lt
  have rb2 := rb1.below k2 rb1.at_.lt
  have kw2 := below_more kw1 k2 (Nat.le_refl _)
  clear ra1 rb1 kw1 c1 p0 p1 p2 p3 p4 p5 p6 p7 p8 p9 p10
  have q0 : w2.cell? ⟨w.heap.size + 1, 0, none⟩ = some (.int .i64 s.kind) := rb2.at_.c0
  have q1 : w2.cell? ⟨w.heap.size + 1, 1, none⟩ = some (.int .i64 s.tx) := rb2.at_.c1
  have q2 : w2.cell? ⟨w.heap.size + 1, 2, none⟩ = some (.int .u16 s.mask) := rb2.at_.c2
  have q3 : w2.cell? ⟨w.heap.size + 1, 3, none⟩ = some (.int .u8 s.k0) := rb2.at_.c3
  have q4 : w2.cell? ⟨w.heap.size + 1, 4, none⟩ = some (.int .u8 s.k1) := rb2.at_.c4
  have q5 : w2.cell? ⟨w.heap.size + 1, 5, none⟩ = some (.int .u8 s.k2) := rb2.at_.c5
  have q6 : w2.cell? ⟨w.heap.size + 1, 6, none⟩ = some (.int .u8 s.k3) := rb2.at_.c6
  have q7 : w2.cell? ⟨w.heap.size + 1, 7, none⟩ = some (.bool s.oT) := rb2.at_.c7
  have q8 : w2.cell? ⟨w.heap.size + 1, 8, none⟩ = some (.int .i64 s.oN) := rb2.at_.c8
  have q9 : w2.cell? ⟨w.heap.size + 1, 9, none⟩ = some (.bool s.nT) := rb2.at_.c9
  have q10 : w2.cell? ⟨w.heap.size + 1, 10, none⟩ = some (.int .i64 s.nN) := rb2.at_.c10
  go_wp2_with fail
  (with_reducible refine (c2 _).mono ?_)
  rintro e w3 ⟨rfl, k3⟩
  have kw3 := below_more kw2 k3 (Nat.le_refl _)
  go_wp2
  go_ret
  exact ⟨rfl, kw3⟩
set_option maxRecDepth 100000 in
set_option maxHeartbeats 1000000 in
theorem ra_yn (r s : RecD) (hr : rightB r = true) (okr : okR r) (lr : Nat) (lr_ : (encL r).length = lr) (hs : rightB s = false) (w : World) : Calls Try.prog 5 #[.agg #[.int .i64 r.kind, .int .i64 r.tx, .int .u16 r.mask, .int .u8 r.k0, .int .u8 r.k1, .int .u8 r.k2, .int .u8 r.k3, .bool r.oT, .int .i64 r.oN, .bool r.nT, .int .i64 r.nN], .agg #[.int .i64 s.kind, .int .i64 s.tx, .int .u16 s.mask, .int .u8 s.k0, .int .u8 s.k1, .int .u8 s.k2, .int .u8 s.k3, .bool s.oT, .int .i64 s.oN, .bool s.nT, .int .i64 s.nN]] w fun e w' => e = .returned (.bool true) ∧ Below w.heap.size w w' := by
  have llr := lr_
  have c0 : ∀ W, Calls Try.prog 8 #[] W fun e w' => e = .returned (.bool true) ∧ Below W.heap.size W w' := fun W => alive_any W
  have c1 : ∀ W, Calls Try.prog 16 #[.agg #[.int .i64 r.kind, .int .i64 r.tx, .int .u16 r.mask, .int .u8 r.k0, .int .u8 r.k1, .int .u8 r.k2, .int .u8 r.k3, .bool r.oT, .int .i64 r.oN, .bool r.nT, .int .i64 r.nN]] W fun e w' => ∃ A2 c2, e = .returned (.tuple #[.slice A2 lr c2, .bool true]) ∧ Good A2 c2 (encL r) w' ∧ Below W.heap.size W w' := fun W => by
    refine (enc_yes r hr okr W).mono ?_
    rintro e w' ⟨v, rfl, o, k⟩
    obtain ⟨A2, c2, rfl, g2⟩ := o.good
    exact ⟨A2, c2, by rw [llr], g2, k⟩
  have c2 : ∀ W, Calls Try.prog 16 #[.agg #[.int .i64 s.kind, .int .i64 s.tx, .int .u16 s.mask, .int .u8 s.k0, .int .u8 s.k1, .int .u8 s.k2, .int .u8 s.k3, .bool s.oT, .int .i64 s.oN, .bool s.nT, .int .i64 s.nN]] W fun e w' => e = .returned (.tuple #[.slice none 0 0, .bool false]) ∧ Below W.heap.size W w' := fun W => enc_no s hs W
  have HB := Lib.hid (box2 w r s)
  go_enter Try.func5, Try.ntmps5
  go_wp2_with fail
  (with_reducible refine (c0 _).mono ?_)
  rintro e w1 ⟨rfl, k1⟩
  have ra1 : RecBox w1 w.heap.size r := HB.out.1.below k1 HB.out.1.at_.lt
  have rb1 : RecBox w1 (w.heap.size + 1) s := HB.out.2.1.below k1 HB.out.2.1.at_.lt
  have kw1 : Below w.heap.size w w1 := below_more HB.out.2.2 k1 (Nat.le_refl _)
  clear HB k1 c0
  have p0 : w1.cell? ⟨w.heap.size, 0, none⟩ = some (.int .i64 r.kind) := ra1.at_.c0
  have p1 : w1.cell? ⟨w.heap.size, 1, none⟩ = some (.int .i64 r.tx) := ra1.at_.c1
  have p2 : w1.cell? ⟨w.heap.size, 2, none⟩ = some (.int .u16 r.mask) := ra1.at_.c2
  have p3 : w1.cell? ⟨w.heap.size, 3, none⟩ = some (.int .u8 r.k0) := ra1.at_.c3
  have p4 : w1.cell? ⟨w.heap.size, 4, none⟩ = some (.int .u8 r.k1) := ra1.at_.c4
  have p5 : w1.cell? ⟨w.heap.size, 5, none⟩ = some (.int .u8 r.k2) := ra1.at_.c5
  have p6 : w1.cell? ⟨w.heap.size, 6, none⟩ = some (.int .u8 r.k3) := ra1.at_.c6
  have p7 : w1.cell? ⟨w.heap.size, 7, none⟩ = some (.bool r.oT) := ra1.at_.c7
  have p8 : w1.cell? ⟨w.heap.size, 8, none⟩ = some (.int .i64 r.oN) := ra1.at_.c8
  have p9 : w1.cell? ⟨w.heap.size, 9, none⟩ = some (.bool r.nT) := ra1.at_.c9
  have p10 : w1.cell? ⟨w.heap.size, 10, none⟩ = some (.int .i64 r.nN) := ra1.at_.c10
  go_wp2_with fail
  (with_reducible refine (c1 _).mono ?_)
  rintro e w2 ⟨A2, d2, rfl, g2, k2⟩
  have ra2 := ra1.below k2 ra1.at_.lt
  have rb2 := rb1.below k2 rb1.at_.lt
  have kw2 := below_more kw1 k2 (Nat.le_refl _)
  clear ra1 rb1 kw1 c1 p0 p1 p2 p3 p4 p5 p6 p7 p8 p9 p10
  have q0 : w2.cell? ⟨w.heap.size + 1, 0, none⟩ = some (.int .i64 s.kind) := rb2.at_.c0
  have q1 : w2.cell? ⟨w.heap.size + 1, 1, none⟩ = some (.int .i64 s.tx) := rb2.at_.c1
  have q2 : w2.cell? ⟨w.heap.size + 1, 2, none⟩ = some (.int .u16 s.mask) := rb2.at_.c2
  have q3 : w2.cell? ⟨w.heap.size + 1, 3, none⟩ = some (.int .u8 s.k0) := rb2.at_.c3
  have q4 : w2.cell? ⟨w.heap.size + 1, 4, none⟩ = some (.int .u8 s.k1) := rb2.at_.c4
  have q5 : w2.cell? ⟨w.heap.size + 1, 5, none⟩ = some (.int .u8 s.k2) := rb2.at_.c5
  have q6 : w2.cell? ⟨w.heap.size + 1, 6, none⟩ = some (.int .u8 s.k3) := rb2.at_.c6
  have q7 : w2.cell? ⟨w.heap.size + 1, 7, none⟩ = some (.bool s.oT) := rb2.at_.c7
  have q8 : w2.cell? ⟨w.heap.size + 1, 8, none⟩ = some (.int .i64 s.oN) := rb2.at_.c8
  have q9 : w2.cell? ⟨w.heap.size + 1, 9, none⟩ = some (.bool s.nT) := rb2.at_.c9
  have q10 : w2.cell? ⟨w.heap.size + 1, 10, none⟩ = some (.int .i64 s.nN) := rb2.at_.c10
  go_wp2_with fail
  (with_reducible refine (c2 _).mono ?_)
  rintro e w3 ⟨rfl, k3⟩
  have kw3 := below_more kw2 k3 (Nat.le_refl _)
  clear g2 llr lr_
  go_wp2
  go_ret
  exact ⟨rfl, kw3⟩
set_option maxRecDepth 100000 in
set_option maxHeartbeats 1000000 in
theorem ra_yy_gt (r s : RecD) (hr : rightB r = true) (okr : okR r) (lr : Nat) (lr_ : (encL r).length = lr) (hs : rightB s = true) (oks : okR s) (ls : Nat) (ls_ : (encL s).length = ls) (hgt : ls < lr) (w : World) : Calls Try.prog 5 #[.agg #[.int .i64 r.kind, .int .i64 r.tx, .int .u16 r.mask, .int .u8 r.k0, .int .u8 r.k1, .int .u8 r.k2, .int .u8 r.k3, .bool r.oT, .int .i64 r.oN, .bool r.nT, .int .i64 r.nN], .agg #[.int .i64 s.kind, .int .i64 s.tx, .int .u16 s.mask, .int .u8 s.k0, .int .u8 s.k1, .int .u8 s.k2, .int .u8 s.k3, .bool s.oT, .int .i64 s.oN, .bool s.nT, .int .i64 s.nN]] w fun e w' => e = .returned (.bool true) ∧ Below w.heap.size w w' := by
  have llr := lr_
  have lls := ls_
  have hd : decide ((ls : Int) < (lr : Int)) = true := by simp; omega
  have hd2 : decide (ls < lr) = true := by simp; omega
  have c0 : ∀ W, Calls Try.prog 8 #[] W fun e w' => e = .returned (.bool true) ∧ Below W.heap.size W w' := fun W => alive_any W
  have c1 : ∀ W, Calls Try.prog 16 #[.agg #[.int .i64 r.kind, .int .i64 r.tx, .int .u16 r.mask, .int .u8 r.k0, .int .u8 r.k1, .int .u8 r.k2, .int .u8 r.k3, .bool r.oT, .int .i64 r.oN, .bool r.nT, .int .i64 r.nN]] W fun e w' => ∃ A2 c2, e = .returned (.tuple #[.slice A2 lr c2, .bool true]) ∧ Good A2 c2 (encL r) w' ∧ Below W.heap.size W w' := fun W => by
    refine (enc_yes r hr okr W).mono ?_
    rintro e w' ⟨v, rfl, o, k⟩
    obtain ⟨A2, c2, rfl, g2⟩ := o.good
    exact ⟨A2, c2, by rw [llr], g2, k⟩
  have c2 : ∀ W, Calls Try.prog 16 #[.agg #[.int .i64 s.kind, .int .i64 s.tx, .int .u16 s.mask, .int .u8 s.k0, .int .u8 s.k1, .int .u8 s.k2, .int .u8 s.k3, .bool s.oT, .int .i64 s.oN, .bool s.nT, .int .i64 s.nN]] W fun e w' => ∃ A2 c2, e = .returned (.tuple #[.slice A2 ls c2, .bool true]) ∧ Good A2 c2 (encL s) w' ∧ Below W.heap.size W w' := fun W => by
    refine (enc_yes s hs oks W).mono ?_
    rintro e w' ⟨v, rfl, o, k⟩
    obtain ⟨A2, c2, rfl, g2⟩ := o.good
    exact ⟨A2, c2, by rw [lls], g2, k⟩
  have HB := Lib.hid (box2 w r s)
  go_enter Try.func5, Try.ntmps5
  go_wp2_with fail
  (with_reducible refine (c0 _).mono ?_)
  rintro e w1 ⟨rfl, k1⟩
  have ra1 : RecBox w1 w.heap.size r := HB.out.1.below k1 HB.out.1.at_.lt
  have rb1 : RecBox w1 (w.heap.size + 1) s := HB.out.2.1.below k1 HB.out.2.1.at_.lt
  have kw1 : Below w.heap.size w w1 := below_more HB.out.2.2 k1 (Nat.le_refl _)
  clear HB k1 c0
  have p0 : w1.cell? ⟨w.heap.size, 0, none⟩ = some (.int .i64 r.kind) := ra1.at_.c0
  have p1 : w1.cell? ⟨w.heap.size, 1, none⟩ = some (.int .i64 r.tx) := ra1.at_.c1
  have p2 : w1.cell? ⟨w.heap.size, 2, none⟩ = some (.int .u16 r.mask) := ra1.at_.c2
  have p3 : w1.cell? ⟨w.heap.size, 3, none⟩ = some (.int .u8 r.k0) := ra1.at_.c3
  have p4 : w1.cell? ⟨w.heap.size, 4, none⟩ = some (.int .u8 r.k1) := ra1.at_.c4
  have p5 : w1.cell? ⟨w.heap.size, 5, none⟩ = some (.int .u8 r.k2) := ra1.at_.c5
  have p6 : w1.cell? ⟨w.heap.size, 6, none⟩ = some (.int .u8 r.k3) := ra1.at_.c6
  have p7 : w1.cell? ⟨w.heap.size, 7, none⟩ = some (.bool r.oT) := ra1.at_.c7
  have p8 : w1.cell? ⟨w.heap.size, 8, none⟩ = some (.int .i64 r.oN) := ra1.at_.c8
  have p9 : w1.cell? ⟨w.heap.size, 9, none⟩ = some (.bool r.nT) := ra1.at_.c9
  have p10 : w1.cell? ⟨w.heap.size, 10, none⟩ = some (.int .i64 r.nN) := ra1.at_.c10
  go_wp2_with fail
  (with_reducible refine (c1 _).mono ?_)
  rintro e w2 ⟨A2, d2, rfl, g2, k2⟩
  have ra2 := ra1.below k2 ra1.at_.lt
  have rb2 := rb1.below k2 rb1.at_.lt
  have kw2 := below_more kw1 k2 (Nat.le_refl _)
  clear ra1 rb1 kw1 c1 p0 p1 p2 p3 p4 p5 p6 p7 p8 p9 p10
  have q0 : w2.cell? ⟨w.heap.size + 1, 0, none⟩ = some (.int .i64 s.kind) := rb2.at_.c0
  have q1 : w2.cell? ⟨w.heap.size + 1, 1, none⟩ = some (.int .i64 s.tx) := rb2.at_.c1
  have q2 : w2.cell? ⟨w.heap.size + 1, 2, none⟩ = some (.int .u16 s.mask) := rb2.at_.c2
  have q3 : w2.cell? ⟨w.heap.size + 1, 3, none⟩ = some (.int .u8 s.k0) := rb2.at_.c3
  have q4 : w2.cell? ⟨w.heap.size + 1, 4, none⟩ = some (.int .u8 s.k1) := rb2.at_.c4
  have q5 : w2.cell? ⟨w.heap.size + 1, 5, none⟩ = some (.int .u8 s.k2) := rb2.at_.c5
  have q6 : w2.cell? ⟨w.heap.size + 1, 6, none⟩ = some (.int .u8 s.k3) := rb2.at_.c6
  have q7 : w2.cell? ⟨w.heap.size + 1, 7, none⟩ = some (.bool s.oT) := rb2.at_.c7
  have q8 : w2.cell? ⟨w.heap.size + 1, 8, none⟩ = some (.int .i64 s.oN) := rb2.at_.c8
  have q9 : w2.cell? ⟨w.heap.size + 1, 9, none⟩ = some (.bool s.nT) := rb2.at_.c9
  have q10 : w2.cell? ⟨w.heap.size + 1, 10, none⟩ = some (.int .i64 s.nN) := rb2.at_.c10
  go_wp2_with fail
  (with_reducible refine (c2 _).mono ?_)
  rintro e w3 ⟨A3, d3, rfl, g3, k3⟩
  have kw3 := below_more kw2 k3 (Nat.le_refl _)
  clear g2 g3 llr lls lr_ ls_
  go_wp2
  go_ret
  exact ⟨rfl, kw3⟩
set_option maxRecDepth 100000 in
set_option maxHeartbeats 1000000 in
theorem ra_yy_le (r s : RecD) (hr : rightB r = true) (okr : okR r) (lr : Nat) (lr_ : (encL r).length = lr) (hs : rightB s = true) (oks : okR s) (ls : Nat) (ls_ : (encL s).length = ls) (hle : lr ≤ ls) (w : World) : Calls Try.prog 5 #[.agg #[.int .i64 r.kind, .int .i64 r.tx, .int .u16 r.mask, .int .u8 r.k0, .int .u8 r.k1, .int .u8 r.k2, .int .u8 r.k3, .bool r.oT, .int .i64 r.oN, .bool r.nT, .int .i64 r.nN], .agg #[.int .i64 s.kind, .int .i64 s.tx, .int .u16 s.mask, .int .u8 s.k0, .int .u8 s.k1, .int .u8 s.k2, .int .u8 s.k3, .bool s.oT, .int .i64 s.oN, .bool s.nT, .int .i64 s.nN]] w fun e w' => e = .returned (.bool true) ∧ Below w.heap.size w w' := by
  have llr := lr_
  have lls := ls_
  have hd : decide ((ls : Int) < (lr : Int)) = false := by simp; omega
  have hd2 : decide (ls < lr) = false := by simp; omega
  have hb24 := encL_bd r
  have hb24s := encL_bd s
  obtain ⟨q, hq⟩ : ∃ q, eqR r s = q := ⟨_, rfl⟩
  have hsame := (apart_eq r s hr hs okr oks).trans hq
  rw [lr_] at hsame hb24
  rw [ls_] at hb24s
  have hE : ∀ W : World, (binOp .eql 32 (.agg #[.int .i64 r.kind, .int .i64 r.tx, .int .u16 r.mask, .int .u8 r.k0, .int .u8 r.k1, .int .u8 r.k2, .int .u8 r.k3, .bool r.oT, .int .i64 r.oN, .bool r.nT, .int .i64 r.nN]) (.agg #[.int .i64 s.kind, .int .i64 s.tx, .int .u16 s.mask, .int .u8 s.k0, .int .u8 s.k1, .int .u8 s.k2, .int .u8 s.k3, .bool s.oT, .int .i64 s.oN, .bool s.nT, .int .i64 s.nN])).run Try.prog W = .ok (.bool q) W := fun W => by rw [← hq]; exact run_eqR r s W
  have c0 : ∀ W, Calls Try.prog 8 #[] W fun e w' => e = .returned (.bool true) ∧ Below W.heap.size W w' := fun W => alive_any W
  have c1 : ∀ W, Calls Try.prog 16 #[.agg #[.int .i64 r.kind, .int .i64 r.tx, .int .u16 r.mask, .int .u8 r.k0, .int .u8 r.k1, .int .u8 r.k2, .int .u8 r.k3, .bool r.oT, .int .i64 r.oN, .bool r.nT, .int .i64 r.nN]] W fun e w' => ∃ A2 c2, e = .returned (.tuple #[.slice A2 lr c2, .bool true]) ∧ Good A2 c2 (encL r) w' ∧ Below W.heap.size W w' := fun W => by
    refine (enc_yes r hr okr W).mono ?_
    rintro e w' ⟨v, rfl, o, k⟩
    obtain ⟨A2, c2, rfl, g2⟩ := o.good
    exact ⟨A2, c2, by rw [llr], g2, k⟩
  have c2 : ∀ W, Calls Try.prog 16 #[.agg #[.int .i64 s.kind, .int .i64 s.tx, .int .u16 s.mask, .int .u8 s.k0, .int .u8 s.k1, .int .u8 s.k2, .int .u8 s.k3, .bool s.oT, .int .i64 s.oN, .bool s.nT, .int .i64 s.nN]] W fun e w' => ∃ A2 c2, e = .returned (.tuple #[.slice A2 ls c2, .bool true]) ∧ Good A2 c2 (encL s) w' ∧ Below W.heap.size W w' := fun W => by
    refine (enc_yes s hs oks W).mono ?_
    rintro e w' ⟨v, rfl, o, k⟩
    obtain ⟨A2, c2, rfl, g2⟩ := o.good
    exact ⟨A2, c2, by rw [lls], g2, k⟩
  have HB := Lib.hid (box2 w r s)
  go_enter Try.func5, Try.ntmps5
  go_wp2_with fail
  (with_reducible refine (c0 _).mono ?_)
  rintro e w1 ⟨rfl, k1⟩
  have ra1 : RecBox w1 w.heap.size r := HB.out.1.below k1 HB.out.1.at_.lt
  have rb1 : RecBox w1 (w.heap.size + 1) s := HB.out.2.1.below k1 HB.out.2.1.at_.lt
  have kw1 : Below w.heap.size w w1 := below_more HB.out.2.2 k1 (Nat.le_refl _)
  clear HB k1 c0
  have p0 : w1.cell? ⟨w.heap.size, 0, none⟩ = some (.int .i64 r.kind) := ra1.at_.c0
  have p1 : w1.cell? ⟨w.heap.size, 1, none⟩ = some (.int .i64 r.tx) := ra1.at_.c1
  have p2 : w1.cell? ⟨w.heap.size, 2, none⟩ = some (.int .u16 r.mask) := ra1.at_.c2
  have p3 : w1.cell? ⟨w.heap.size, 3, none⟩ = some (.int .u8 r.k0) := ra1.at_.c3
  have p4 : w1.cell? ⟨w.heap.size, 4, none⟩ = some (.int .u8 r.k1) := ra1.at_.c4
  have p5 : w1.cell? ⟨w.heap.size, 5, none⟩ = some (.int .u8 r.k2) := ra1.at_.c5
  have p6 : w1.cell? ⟨w.heap.size, 6, none⟩ = some (.int .u8 r.k3) := ra1.at_.c6
  have p7 : w1.cell? ⟨w.heap.size, 7, none⟩ = some (.bool r.oT) := ra1.at_.c7
  have p8 : w1.cell? ⟨w.heap.size, 8, none⟩ = some (.int .i64 r.oN) := ra1.at_.c8
  have p9 : w1.cell? ⟨w.heap.size, 9, none⟩ = some (.bool r.nT) := ra1.at_.c9
  have p10 : w1.cell? ⟨w.heap.size, 10, none⟩ = some (.int .i64 r.nN) := ra1.at_.c10
  go_wp2_with fail
  (with_reducible refine (c1 _).mono ?_)
  rintro e w2 ⟨A2, d2, rfl, g2, k2⟩
  have ra2 := ra1.below k2 ra1.at_.lt
  have rb2 := rb1.below k2 rb1.at_.lt
  have kw2 := below_more kw1 k2 (Nat.le_refl _)
  clear ra1 rb1 kw1 c1 p0 p1 p2 p3 p4 p5 p6 p7 p8 p9 p10
  have q0 : w2.cell? ⟨w.heap.size + 1, 0, none⟩ = some (.int .i64 s.kind) := rb2.at_.c0
  have q1 : w2.cell? ⟨w.heap.size + 1, 1, none⟩ = some (.int .i64 s.tx) := rb2.at_.c1
  have q2 : w2.cell? ⟨w.heap.size + 1, 2, none⟩ = some (.int .u16 s.mask) := rb2.at_.c2
  have q3 : w2.cell? ⟨w.heap.size + 1, 3, none⟩ = some (.int .u8 s.k0) := rb2.at_.c3
  have q4 : w2.cell? ⟨w.heap.size + 1, 4, none⟩ = some (.int .u8 s.k1) := rb2.at_.c4
  have q5 : w2.cell? ⟨w.heap.size + 1, 5, none⟩ = some (.int .u8 s.k2) := rb2.at_.c5
  have q6 : w2.cell? ⟨w.heap.size + 1, 6, none⟩ = some (.int .u8 s.k3) := rb2.at_.c6
  have q7 : w2.cell? ⟨w.heap.size + 1, 7, none⟩ = some (.bool s.oT) := rb2.at_.c7
  have q8 : w2.cell? ⟨w.heap.size + 1, 8, none⟩ = some (.int .i64 s.oN) := rb2.at_.c8
  have q9 : w2.cell? ⟨w.heap.size + 1, 9, none⟩ = some (.bool s.nT) := rb2.at_.c9
  have q10 : w2.cell? ⟨w.heap.size + 1, 10, none⟩ = some (.int .i64 s.nN) := rb2.at_.c10
  go_wp2_with fail
  (with_reducible refine (c2 _).mono ?_)
  rintro e w3 ⟨A3, d3, rfl, g3, k3⟩
  have ra3 := ra2.below k3 ra2.at_.lt
  have rb3 := rb2.below k3 rb2.at_.lt
  have kw3 := below_more kw2 k3 (Nat.le_refl _)
  have G2 := g2.below k3
  obtain ⟨b3, o3, rfl⟩ := g3.some (by rw [lls]; omega)
  have hc3 : lr ≤ d3 := by have := g3.2.1; omega
  have hlt : ((encL s).take lr).length = lr := by rw [List.length_take]; omega
  have F : ∀ W, Below w3.heap.size w3 W → Calls Try.prog 20 #[.slice A2 lr d2, .slice (some ⟨b3, o3, none⟩) lr d3] W fun e w' => e = .returned (.bool q) ∧ Below W.heap.size W w' := fun W hb => sameB A2 (some ⟨b3, o3, none⟩) (encL r) ((encL s).take lr) d2 d3 lr lr q llr hlt (by omega) (by omega) hsame W (G2.below hb) ((g3.below hb).take lr)
  have kS : ∀ W, Below w3.heap.size w3 W → (W.cell? ⟨w.heap.size, 0, none⟩ = some (.int .i64 r.kind) ∧ W.cell? ⟨w.heap.size, 1, none⟩ = some (.int .i64 r.tx) ∧ W.cell? ⟨w.heap.size, 2, none⟩ = some (.int .u16 r.mask) ∧ W.cell? ⟨w.heap.size, 3, none⟩ = some (.int .u8 r.k0) ∧ W.cell? ⟨w.heap.size, 4, none⟩ = some (.int .u8 r.k1) ∧ W.cell? ⟨w.heap.size, 5, none⟩ = some (.int .u8 r.k2) ∧ W.cell? ⟨w.heap.size, 6, none⟩ = some (.int .u8 r.k3) ∧ W.cell? ⟨w.heap.size, 7, none⟩ = some (.bool r.oT) ∧ W.cell? ⟨w.heap.size, 8, none⟩ = some (.int .i64 r.oN) ∧ W.cell? ⟨w.heap.size, 9, none⟩ = some (.bool r.nT) ∧ W.cell? ⟨w.heap.size, 10, none⟩ = some (.int .i64 r.nN) ∧ W.cell? ⟨w.heap.size + 1, 0, none⟩ = some (.int .i64 s.kind) ∧ W.cell? ⟨w.heap.size + 1, 1, none⟩ = some (.int .i64 s.tx) ∧ W.cell? ⟨w.heap.size + 1, 2, none⟩ = some (.int .u16 s.mask) ∧ W.cell? ⟨w.heap.size + 1, 3, none⟩ = some (.int .u8 s.k0) ∧ W.cell? ⟨w.heap.size + 1, 4, none⟩ = some (.int .u8 s.k1) ∧ W.cell? ⟨w.heap.size + 1, 5, none⟩ = some (.int .u8 s.k2) ∧ W.cell? ⟨w.heap.size + 1, 6, none⟩ = some (.int .u8 s.k3) ∧ W.cell? ⟨w.heap.size + 1, 7, none⟩ = some (.bool s.oT) ∧ W.cell? ⟨w.heap.size + 1, 8, none⟩ = some (.int .i64 s.oN) ∧ W.cell? ⟨w.heap.size + 1, 9, none⟩ = some (.bool s.nT) ∧ W.cell? ⟨w.heap.size + 1, 10, none⟩ = some (.int .i64 s.nN) ∧ Below w3.heap.size w3 W) := fun W hb => by
    have r' := ra3.below hb ra3.at_.lt
    have q' := rb3.below hb rb3.at_.lt
    exact ⟨r'.at_.c0, r'.at_.c1, r'.at_.c2, r'.at_.c3, r'.at_.c4, r'.at_.c5, r'.at_.c6, r'.at_.c7, r'.at_.c8, r'.at_.c9, r'.at_.c10, q'.at_.c0, q'.at_.c1, q'.at_.c2, q'.at_.c3, q'.at_.c4, q'.at_.c5, q'.at_.c6, q'.at_.c7, q'.at_.c8, q'.at_.c9, q'.at_.c10, hb⟩
  have kd : Below w3.heap.size w3 w3.drew := (Below.refl _ _).drew
  have KS := Lib.hid kS
  have KF := Lib.hid F
  have i3 : (q == q) = true := by simp
  have i0 : (0 : Int) ≤ (lr : Int) := by omega
  have i1 : (lr : Int) ≤ (ls : Int) := by omega
  clear g2 g3 llr lls lr_ ls_ kS F ra2 rb2 ra3 rb3 G2 hsame hlt q0 q1 q2 q3 q4 q5 q6 q7 q8 q9 q10 c2 k3 kw2 hq hr hs okr oks
  go_wp2_with fail
  go_region_held3 (fun w' => (w'.cell? ⟨w.heap.size, 0, none⟩ = some (.int .i64 r.kind) ∧ w'.cell? ⟨w.heap.size, 1, none⟩ = some (.int .i64 r.tx) ∧ w'.cell? ⟨w.heap.size, 2, none⟩ = some (.int .u16 r.mask) ∧ w'.cell? ⟨w.heap.size, 3, none⟩ = some (.int .u8 r.k0) ∧ w'.cell? ⟨w.heap.size, 4, none⟩ = some (.int .u8 r.k1) ∧ w'.cell? ⟨w.heap.size, 5, none⟩ = some (.int .u8 r.k2) ∧ w'.cell? ⟨w.heap.size, 6, none⟩ = some (.int .u8 r.k3) ∧ w'.cell? ⟨w.heap.size, 7, none⟩ = some (.bool r.oT) ∧ w'.cell? ⟨w.heap.size, 8, none⟩ = some (.int .i64 r.oN) ∧ w'.cell? ⟨w.heap.size, 9, none⟩ = some (.bool r.nT) ∧ w'.cell? ⟨w.heap.size, 10, none⟩ = some (.int .i64 r.nN) ∧ w'.cell? ⟨w.heap.size + 1, 0, none⟩ = some (.int .i64 s.kind) ∧ w'.cell? ⟨w.heap.size + 1, 1, none⟩ = some (.int .i64 s.tx) ∧ w'.cell? ⟨w.heap.size + 1, 2, none⟩ = some (.int .u16 s.mask) ∧ w'.cell? ⟨w.heap.size + 1, 3, none⟩ = some (.int .u8 s.k0) ∧ w'.cell? ⟨w.heap.size + 1, 4, none⟩ = some (.int .u8 s.k1) ∧ w'.cell? ⟨w.heap.size + 1, 5, none⟩ = some (.int .u8 s.k2) ∧ w'.cell? ⟨w.heap.size + 1, 6, none⟩ = some (.int .u8 s.k3) ∧ w'.cell? ⟨w.heap.size + 1, 7, none⟩ = some (.bool s.oT) ∧ w'.cell? ⟨w.heap.size + 1, 8, none⟩ = some (.int .i64 s.oN) ∧ w'.cell? ⟨w.heap.size + 1, 9, none⟩ = some (.bool s.nT) ∧ w'.cell? ⟨w.heap.size + 1, 10, none⟩ = some (.int .i64 s.nN) ∧ Below w3.heap.size w3 w')) (first | assumption | exact KS.out _ kd | exact KS.out _ z4) ((go_at_call 20; (with_reducible refine (KF.out _ kd).mono ?_); rintro e w4 ⟨rfl, k4⟩; have z4 : Below w3.heap.size w3 w4 := kd.trans k4))
  go_wp2
  go_ret
  exact ⟨rfl, below_more kw3 z4 (Nat.le_refl _)⟩
/-- RecApart returns true, for every input. -/
theorem recApart_any (r s : RecD) (okr : okR r) (oks : okR s) (w : World) : Calls Try.prog 5 #[recV r, recV s] w fun e w' => e = .returned (.bool true) ∧ Below w.heap.size w w' := by
  rw [recV_eq, recV_eq]
  cases hr : rightB r with
  | false =>
    cases hs : rightB s with
    | false => exact ra_nn r s hr hs w
    | true => exact ra_ny r s hr hs oks _ rfl w
  | true =>
    cases hs : rightB s with
    | false => exact ra_yn r s hr okr _ rfl hs w
    | true =>
      by_cases h : (encL s).length < (encL r).length
      · exact ra_yy_gt r s hr okr _ rfl hs oks _ rfl h w
      · exact ra_yy_le r s hr okr _ rfl hs oks _ rfl (by omega) w
end Go.Proofs.Ytlohogcddelekaa
