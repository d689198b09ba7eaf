/- The walk of the statement RecPlain: it returns true, for every input. -/
import Derived.Test.YtlohogcddelekaaEq
namespace Go.Proofs.Ytlohogcddelekaa
open Go.RowKit Go.Deep
set_option linter.unusedVariables false

theorem kind8 (r : RecD) (h : rightB r = true) : r.kind = 1 ∨ r.kind = 2 ∨ r.kind = 3 ∨ r.kind = 4 ∨ r.kind = 5 ∨ r.kind = 6 ∨ r.kind = 7 ∨ r.kind = 8 := by
  have := right_bd r h
  omega
theorem plain_0 (r : RecD) (ok : okR r) (h : rightB r = true) : rightB { r with k3 := (r.k3 + 1) % 256 } = (r.kind == 1 || r.kind == 7) := by
  have hk := ok.k3
  clear ok
  have h8 := kind8 r h
  obtain ⟨kind, tx, mask, k0, k1, k2, k3, oT, oN, nT, nN⟩ := r
  dsimp only at *
  rcases h8 with rfl | rfl | rfl | rfl | rfl | rfl | rfl | rfl <;> simp [rightB, eqR, okTx, okVal] at h ⊢ <;> first | done | omega | simp_all | (intros; omega)
theorem plain_1 (r : RecD) (ok : okR r) (h : rightB r = true) : (r.kind == 2 || r.kind == 8) = false → r.mask = 0 ∧ rightB { r with mask := 1 } = false := by
  have hk := ok.k3
  clear ok
  have h8 := kind8 r h
  obtain ⟨kind, tx, mask, k0, k1, k2, k3, oT, oN, nT, nN⟩ := r
  dsimp only at *
  rcases h8 with rfl | rfl | rfl | rfl | rfl | rfl | rfl | rfl <;> simp [rightB, eqR, okTx, okVal] at h ⊢ <;> first | done | omega | simp_all | (intros; omega)
theorem plain_2 (r : RecD) (ok : okR r) (h : rightB r = true) : rightB { r with oT := true, oN := 0 } = (r.kind == 1) := by
  have hk := ok.k3
  clear ok
  have h8 := kind8 r h
  obtain ⟨kind, tx, mask, k0, k1, k2, k3, oT, oN, nT, nN⟩ := r
  dsimp only at *
  rcases h8 with rfl | rfl | rfl | rfl | rfl | rfl | rfl | rfl <;> simp [rightB, eqR, okTx, okVal] at h ⊢ <;> first | done | omega | simp_all | (intros; omega)
theorem plain_3 (r : RecD) (ok : okR r) (h : rightB r = true) : rightB { r with nT := false, nN := 1 } = false := by
  have hk := ok.k3
  clear ok
  have h8 := kind8 r h
  obtain ⟨kind, tx, mask, k0, k1, k2, k3, oT, oN, nT, nN⟩ := r
  dsimp only at *
  rcases h8 with rfl | rfl | rfl | rfl | rfl | rfl | rfl | rfl <;> simp [rightB, eqR, okTx, okVal] at h ⊢ <;> first | done | omega | simp_all | (intros; omega)
theorem plain_4 (r : RecD) (ok : okR r) (h : rightB r = true) : rightB { r with tx := 0 } = (r.kind == 7 || r.kind == 8) := by
  have hk := ok.k3
  clear ok
  have h8 := kind8 r h
  obtain ⟨kind, tx, mask, k0, k1, k2, k3, oT, oN, nT, nN⟩ := r
  dsimp only at *
  rcases h8 with rfl | rfl | rfl | rfl | rfl | rfl | rfl | rfl <;> simp [rightB, eqR, okTx, okVal] at h ⊢ <;> first | done | omega | simp_all | (intros; omega)
set_option maxRecDepth 100000 in
set_option maxHeartbeats 1000000 in
theorem rp_1_0 (r : RecD) (ok : okR r) (hr : rightB r = true) (h1 : (r.kind == 1) = true) (h2 : (r.kind == 2) = false) (h7 : (r.kind == 7) = false) (h8 : (r.kind == 8) = false) (what : Int) (e0 : (what == 0) = true) (w : World) : Calls Try.prog 7 #[.agg #[.int .i64 r.kind, .int .i64 r.tx, .int .u16 r.mask, .int .u8 r.k0, .int .u8 r.k1, .int .u8 r.k2, .int .u8 r.k3, .bool r.oT, .int .i64 r.oN, .bool r.nT, .int .i64 r.nN], .int .i64 what] w fun e w' => e = .returned (.bool true) ∧ Below w.heap.size w w' := by
  have c0 : ∀ W, Calls Try.prog 8 #[] W fun e w' => e = .returned (.bool true) ∧ Below W.heap.size W w' := fun W => alive_any W
  have c1 : ∀ W, Calls Try.prog 18 #[.agg #[.int .i64 r.kind, .int .i64 r.tx, .int .u16 r.mask, .int .u8 r.k0, .int .u8 r.k1, .int .u8 r.k2, .int .u8 r.k3, .bool r.oT, .int .i64 r.oN, .bool r.nT, .int .i64 r.nN]] W fun e w' => e = .returned (.bool true) ∧ Below W.heap.size W w' := fun W => right_any r true hr W
  have c2 : ∀ W, Calls Try.prog 18 #[.agg #[.int .i64 r.kind, .int .i64 r.tx, .int .u16 r.mask, .int .u8 r.k0, .int .u8 r.k1, .int .u8 r.k2, .int .u8 ((r.k3 + 1) % 256), .bool r.oT, .int .i64 r.oN, .bool r.nT, .int .i64 r.nN]] W fun e w' => e = .returned (.bool true) ∧ Below W.heap.size W w' := fun W => right_any { r with k3 := (r.k3 + 1) % 256 } true ((plain_0 r ok hr).trans (by simp [h1, h7])) W
  have hzw : IntKind.u8.wrap (r.k3 + 1) = (r.k3 + 1) % 256 := by rw [IntKind.wrap_u8]
  generalize (r.k3 + 1) % 256 = z at *
  have HB := Lib.hid (recBox_new w r)
  clear hr ok
  go_enter Try.func7, Try.ntmps7
  go_wp2_with fail
  (with_reducible refine (c0 _).mono ?_)
  rintro e w1 ⟨rfl, k1⟩
  have rb1 : RecBox w1 w.heap.size r := HB.out.below k1 (by simp)
  have kw1 : Below w.heap.size w w1 := ((Below.refl _ w).alloc (Nat.le_refl _) _).trans (k1.mono (by simp))
  clear HB k1 c0
  have mc0 : w1.cell? ⟨w.heap.size, 0, none⟩ = some (.int .i64 r.kind) := rb1.at_.c0
  have mc1 : w1.cell? ⟨w.heap.size, 1, none⟩ = some (.int .i64 r.tx) := rb1.at_.c1
  have mc2 : w1.cell? ⟨w.heap.size, 2, none⟩ = some (.int .u16 r.mask) := rb1.at_.c2
  have mc3 : w1.cell? ⟨w.heap.size, 3, none⟩ = some (.int .u8 r.k0) := rb1.at_.c3
  have mc4 : w1.cell? ⟨w.heap.size, 4, none⟩ = some (.int .u8 r.k1) := rb1.at_.c4
  have mc5 : w1.cell? ⟨w.heap.size, 5, none⟩ = some (.int .u8 r.k2) := rb1.at_.c5
  have mc6 : w1.cell? ⟨w.heap.size, 6, none⟩ = some (.int .u8 r.k3) := rb1.at_.c6
  have mc7 : w1.cell? ⟨w.heap.size, 7, none⟩ = some (.bool r.oT) := rb1.at_.c7
  have mc8 : w1.cell? ⟨w.heap.size, 8, none⟩ = some (.int .i64 r.oN) := rb1.at_.c8
  have mc9 : w1.cell? ⟨w.heap.size, 9, none⟩ = some (.bool r.nT) := rb1.at_.c9
  have mc10 : w1.cell? ⟨w.heap.size, 10, none⟩ = some (.int .i64 r.nN) := rb1.at_.c10
  go_wp2_with fail
  (with_reducible refine (c1 _).mono ?_)
  rintro e w2 ⟨rfl, k2⟩
  have rb2 := rb1.below k2 rb1.at_.lt
  have kw2 := below_more kw1 k2 (Nat.le_refl _)
  have hs2 := kw2.size
  clear rb1 k2 c1 kw1 mc0 mc1 mc2 mc3 mc4 mc5 mc6 mc7 mc8 mc9 mc10
  have mc0 : w2.cell? ⟨w.heap.size, 0, none⟩ = some (.int .i64 r.kind) := rb2.at_.c0
  have mc1 : w2.cell? ⟨w.heap.size, 1, none⟩ = some (.int .i64 r.tx) := rb2.at_.c1
  have mc2 : w2.cell? ⟨w.heap.size, 2, none⟩ = some (.int .u16 r.mask) := rb2.at_.c2
  have mc3 : w2.cell? ⟨w.heap.size, 3, none⟩ = some (.int .u8 r.k0) := rb2.at_.c3
  have mc4 : w2.cell? ⟨w.heap.size, 4, none⟩ = some (.int .u8 r.k1) := rb2.at_.c4
  have mc5 : w2.cell? ⟨w.heap.size, 5, none⟩ = some (.int .u8 r.k2) := rb2.at_.c5
  have mc6 : w2.cell? ⟨w.heap.size, 6, none⟩ = some (.int .u8 r.k3) := rb2.at_.c6
  have mc7 : w2.cell? ⟨w.heap.size, 7, none⟩ = some (.bool r.oT) := rb2.at_.c7
  have mc8 : w2.cell? ⟨w.heap.size, 8, none⟩ = some (.int .i64 r.oN) := rb2.at_.c8
  have mc9 : w2.cell? ⟨w.heap.size, 9, none⟩ = some (.bool r.nT) := rb2.at_.c9
  have mc10 : w2.cell? ⟨w.heap.size, 10, none⟩ = some (.int .i64 r.nN) := rb2.at_.c10
  go_wp2_with fail
  (with_reducible refine (c2 _).mono ?_)
  rintro e w3 ⟨rfl, k3⟩
  go_wp2
  go_ret
  refine ⟨rfl, below_more ?_ k3 (Nat.le_refl _)⟩
  repeat first | with_reducible exact kw2 | with_reducible refine below_sc ?_ hs2 _ | with_reducible refine Below.alloc ?_ hs2 _
set_option maxRecDepth 100000 in
set_option maxHeartbeats 1000000 in
theorem rp_1_1 (r : RecD) (ok : okR r) (hr : rightB r = true) (h1 : (r.kind == 1) = true) (h2 : (r.kind == 2) = false) (h7 : (r.kind == 7) = false) (h8 : (r.kind == 8) = false) (what : Int) (e0 : (what == 0) = false) (e1 : (what == 1) = true) (w : World) : Calls Try.prog 7 #[.agg #[.int .i64 r.kind, .int .i64 r.tx, .int .u16 r.mask, .int .u8 r.k0, .int .u8 r.k1, .int .u8 r.k2, .int .u8 r.k3, .bool r.oT, .int .i64 r.oN, .bool r.nT, .int .i64 r.nN], .int .i64 what] w fun e w' => e = .returned (.bool true) ∧ Below w.heap.size w w' := by
  have c0 : ∀ W, Calls Try.prog 8 #[] W fun e w' => e = .returned (.bool true) ∧ Below W.heap.size W w' := fun W => alive_any W
  have c1 : ∀ W, Calls Try.prog 18 #[.agg #[.int .i64 r.kind, .int .i64 r.tx, .int .u16 r.mask, .int .u8 r.k0, .int .u8 r.k1, .int .u8 r.k2, .int .u8 r.k3, .bool r.oT, .int .i64 r.oN, .bool r.nT, .int .i64 r.nN]] W fun e w' => e = .returned (.bool true) ∧ Below W.heap.size W w' := fun W => right_any r true hr W
  have c2 : ∀ W, Calls Try.prog 18 #[.agg #[.int .i64 r.kind, .int .i64 r.tx, .int .u16 1, .int .u8 r.k0, .int .u8 r.k1, .int .u8 r.k2, .int .u8 r.k3, .bool r.oT, .int .i64 r.oN, .bool r.nT, .int .i64 r.nN]] W fun e w' => e = .returned (.bool false) ∧ Below W.heap.size W w' := fun W => right_any { r with mask := 1 } false ((plain_1 r ok hr (by simp [h2, h8])).2) W
  have hm0 : r.mask = 0 := (plain_1 r ok hr (by simp [h2, h8])).1
  have hx1 : bits .xor .u16 (r.mask : Int) 1 = 1 := by rw [hm0]; decide
  clear hm0
  have HB := Lib.hid (recBox_new w r)
  clear hr ok
  go_enter Try.func7, Try.ntmps7
  go_wp2_with fail
  (with_reducible refine (c0 _).mono ?_)
  rintro e w1 ⟨rfl, k1⟩
  have rb1 : RecBox w1 w.heap.size r := HB.out.below k1 (by simp)
  have kw1 : Below w.heap.size w w1 := ((Below.refl _ w).alloc (Nat.le_refl _) _).trans (k1.mono (by simp))
  clear HB k1 c0
  have mc0 : w1.cell? ⟨w.heap.size, 0, none⟩ = some (.int .i64 r.kind) := rb1.at_.c0
  have mc1 : w1.cell? ⟨w.heap.size, 1, none⟩ = some (.int .i64 r.tx) := rb1.at_.c1
  have mc2 : w1.cell? ⟨w.heap.size, 2, none⟩ = some (.int .u16 r.mask) := rb1.at_.c2
  have mc3 : w1.cell? ⟨w.heap.size, 3, none⟩ = some (.int .u8 r.k0) := rb1.at_.c3
  have mc4 : w1.cell? ⟨w.heap.size, 4, none⟩ = some (.int .u8 r.k1) := rb1.at_.c4
  have mc5 : w1.cell? ⟨w.heap.size, 5, none⟩ = some (.int .u8 r.k2) := rb1.at_.c5
  have mc6 : w1.cell? ⟨w.heap.size, 6, none⟩ = some (.int .u8 r.k3) := rb1.at_.c6
  have mc7 : w1.cell? ⟨w.heap.size, 7, none⟩ = some (.bool r.oT) := rb1.at_.c7
  have mc8 : w1.cell? ⟨w.heap.size, 8, none⟩ = some (.int .i64 r.oN) := rb1.at_.c8
  have mc9 : w1.cell? ⟨w.heap.size, 9, none⟩ = some (.bool r.nT) := rb1.at_.c9
  have mc10 : w1.cell? ⟨w.heap.size, 10, none⟩ = some (.int .i64 r.nN) := rb1.at_.c10
  go_wp2_with fail
  (with_reducible refine (c1 _).mono ?_)
  rintro e w2 ⟨rfl, k2⟩
  have rb2 := rb1.below k2 rb1.at_.lt
  have kw2 := below_more kw1 k2 (Nat.le_refl _)
  have hs2 := kw2.size
  clear rb1 k2 c1 kw1 mc0 mc1 mc2 mc3 mc4 mc5 mc6 mc7 mc8 mc9 mc10
  have mc0 : w2.cell? ⟨w.heap.size, 0, none⟩ = some (.int .i64 r.kind) := rb2.at_.c0
  have mc1 : w2.cell? ⟨w.heap.size, 1, none⟩ = some (.int .i64 r.tx) := rb2.at_.c1
  have mc2 : w2.cell? ⟨w.heap.size, 2, none⟩ = some (.int .u16 r.mask) := rb2.at_.c2
  have mc3 : w2.cell? ⟨w.heap.size, 3, none⟩ = some (.int .u8 r.k0) := rb2.at_.c3
  have mc4 : w2.cell? ⟨w.heap.size, 4, none⟩ = some (.int .u8 r.k1) := rb2.at_.c4
  have mc5 : w2.cell? ⟨w.heap.size, 5, none⟩ = some (.int .u8 r.k2) := rb2.at_.c5
  have mc6 : w2.cell? ⟨w.heap.size, 6, none⟩ = some (.int .u8 r.k3) := rb2.at_.c6
  have mc7 : w2.cell? ⟨w.heap.size, 7, none⟩ = some (.bool r.oT) := rb2.at_.c7
  have mc8 : w2.cell? ⟨w.heap.size, 8, none⟩ = some (.int .i64 r.oN) := rb2.at_.c8
  have mc9 : w2.cell? ⟨w.heap.size, 9, none⟩ = some (.bool r.nT) := rb2.at_.c9
  have mc10 : w2.cell? ⟨w.heap.size, 10, none⟩ = some (.int .i64 r.nN) := rb2.at_.c10
  go_wp2_with fail
  (with_reducible refine (c2 _).mono ?_)
  rintro e w3 ⟨rfl, k3⟩
  go_wp2
  go_ret
  refine ⟨rfl, below_more ?_ k3 (Nat.le_refl _)⟩
  repeat first | with_reducible exact kw2 | with_reducible refine below_sc ?_ hs2 _ | with_reducible refine Below.alloc ?_ hs2 _
set_option maxRecDepth 100000 in
set_option maxHeartbeats 1000000 in
theorem rp_1_2 (r : RecD) (ok : okR r) (hr : rightB r = true) (h1 : (r.kind == 1) = true) (h2 : (r.kind == 2) = false) (h7 : (r.kind == 7) = false) (h8 : (r.kind == 8) = false) (what : Int) (e0 : (what == 0) = false) (e1 : (what == 1) = false) (e2 : (what == 2) = true) (w : World) : Calls Try.prog 7 #[.agg #[.int .i64 r.kind, .int .i64 r.tx, .int .u16 r.mask, .int .u8 r.k0, .int .u8 r.k1, .int .u8 r.k2, .int .u8 r.k3, .bool r.oT, .int .i64 r.oN, .bool r.nT, .int .i64 r.nN], .int .i64 what] w fun e w' => e = .returned (.bool true) ∧ Below w.heap.size w w' := by
  have c0 : ∀ W, Calls Try.prog 8 #[] W fun e w' => e = .returned (.bool true) ∧ Below W.heap.size W w' := fun W => alive_any W
  have c1 : ∀ W, Calls Try.prog 18 #[.agg #[.int .i64 r.kind, .int .i64 r.tx, .int .u16 r.mask, .int .u8 r.k0, .int .u8 r.k1, .int .u8 r.k2, .int .u8 r.k3, .bool r.oT, .int .i64 r.oN, .bool r.nT, .int .i64 r.nN]] W fun e w' => e = .returned (.bool true) ∧ Below W.heap.size W w' := fun W => right_any r true hr W
  have c2 : ∀ W, Calls Try.prog 18 #[.agg #[.int .i64 r.kind, .int .i64 r.tx, .int .u16 r.mask, .int .u8 r.k0, .int .u8 r.k1, .int .u8 r.k2, .int .u8 r.k3, .bool true, .int .i64 0, .bool r.nT, .int .i64 r.nN]] W fun e w' => e = .returned (.bool true) ∧ Below W.heap.size W w' := fun W => right_any { r with oT := true, oN := 0 } true ((plain_2 r ok hr).trans (by simp [h1])) W
  have HB := Lib.hid (recBox_new w r)
  clear hr ok
  go_enter Try.func7, Try.ntmps7
  go_wp2_with fail
  (with_reducible refine (c0 _).mono ?_)
  rintro e w1 ⟨rfl, k1⟩
  have rb1 : RecBox w1 w.heap.size r := HB.out.below k1 (by simp)
  have kw1 : Below w.heap.size w w1 := ((Below.refl _ w).alloc (Nat.le_refl _) _).trans (k1.mono (by simp))
  clear HB k1 c0
  have mc0 : w1.cell? ⟨w.heap.size, 0, none⟩ = some (.int .i64 r.kind) := rb1.at_.c0
  have mc1 : w1.cell? ⟨w.heap.size, 1, none⟩ = some (.int .i64 r.tx) := rb1.at_.c1
  have mc2 : w1.cell? ⟨w.heap.size, 2, none⟩ = some (.int .u16 r.mask) := rb1.at_.c2
  have mc3 : w1.cell? ⟨w.heap.size, 3, none⟩ = some (.int .u8 r.k0) := rb1.at_.c3
  have mc4 : w1.cell? ⟨w.heap.size, 4, none⟩ = some (.int .u8 r.k1) := rb1.at_.c4
  have mc5 : w1.cell? ⟨w.heap.size, 5, none⟩ = some (.int .u8 r.k2) := rb1.at_.c5
  have mc6 : w1.cell? ⟨w.heap.size, 6, none⟩ = some (.int .u8 r.k3) := rb1.at_.c6
  have mc7 : w1.cell? ⟨w.heap.size, 7, none⟩ = some (.bool r.oT) := rb1.at_.c7
  have mc8 : w1.cell? ⟨w.heap.size, 8, none⟩ = some (.int .i64 r.oN) := rb1.at_.c8
  have mc9 : w1.cell? ⟨w.heap.size, 9, none⟩ = some (.bool r.nT) := rb1.at_.c9
  have mc10 : w1.cell? ⟨w.heap.size, 10, none⟩ = some (.int .i64 r.nN) := rb1.at_.c10
  go_wp2_with fail
  (with_reducible refine (c1 _).mono ?_)
  rintro e w2 ⟨rfl, k2⟩
  have rb2 := rb1.below k2 rb1.at_.lt
  have kw2 := below_more kw1 k2 (Nat.le_refl _)
  have hs2 := kw2.size
  clear rb1 k2 c1 kw1 mc0 mc1 mc2 mc3 mc4 mc5 mc6 mc7 mc8 mc9 mc10
  have mc0 : w2.cell? ⟨w.heap.size, 0, none⟩ = some (.int .i64 r.kind) := rb2.at_.c0
  have mc1 : w2.cell? ⟨w.heap.size, 1, none⟩ = some (.int .i64 r.tx) := rb2.at_.c1
  have mc2 : w2.cell? ⟨w.heap.size, 2, none⟩ = some (.int .u16 r.mask) := rb2.at_.c2
  have mc3 : w2.cell? ⟨w.heap.size, 3, none⟩ = some (.int .u8 r.k0) := rb2.at_.c3
  have mc4 : w2.cell? ⟨w.heap.size, 4, none⟩ = some (.int .u8 r.k1) := rb2.at_.c4
  have mc5 : w2.cell? ⟨w.heap.size, 5, none⟩ = some (.int .u8 r.k2) := rb2.at_.c5
  have mc6 : w2.cell? ⟨w.heap.size, 6, none⟩ = some (.int .u8 r.k3) := rb2.at_.c6
  have mc7 : w2.cell? ⟨w.heap.size, 7, none⟩ = some (.bool r.oT) := rb2.at_.c7
  have mc8 : w2.cell? ⟨w.heap.size, 8, none⟩ = some (.int .i64 r.oN) := rb2.at_.c8
  have mc9 : w2.cell? ⟨w.heap.size, 9, none⟩ = some (.bool r.nT) := rb2.at_.c9
  have mc10 : w2.cell? ⟨w.heap.size, 10, none⟩ = some (.int .i64 r.nN) := rb2.at_.c10
  go_wp2_with fail
  have rx : RecBox (w2.alloc (.cells #[.int .i64 r.kind, .int .i64 r.tx, .int .u16 r.mask, .int .u8 r.k0, .int .u8 r.k1, .int .u8 r.k2, .int .u8 r.k3, .bool true, .int .i64 0, .bool r.nT, .int .i64 r.nN] 32)) w2.heap.size { r with oT := true, oN := 0 } := recBox_new w2 { r with oT := true, oN := 0 }
  have rk := rb2.below ((Below.refl w2.heap.size w2).alloc (Nat.le_refl _) (.cells #[.int .i64 r.kind, .int .i64 r.tx, .int .u16 r.mask, .int .u8 r.k0, .int .u8 r.k1, .int .u8 r.k2, .int .u8 r.k3, .bool true, .int .i64 0, .bool r.nT, .int .i64 r.nN] 32)) rb2.at_.lt
  have kw3 : Below w.heap.size w (w2.alloc (.cells #[.int .i64 r.kind, .int .i64 r.tx, .int .u16 r.mask, .int .u8 r.k0, .int .u8 r.k1, .int .u8 r.k2, .int .u8 r.k3, .bool true, .int .i64 0, .bool r.nT, .int .i64 r.nN] 32)) := kw2.alloc hs2 _
  clear kw2 hs2 rb2 mc0 mc1 mc2 mc3 mc4 mc5 mc6 mc7 mc8 mc9 mc10
  generalize (w2.alloc (.cells #[.int .i64 r.kind, .int .i64 r.tx, .int .u16 r.mask, .int .u8 r.k0, .int .u8 r.k1, .int .u8 r.k2, .int .u8 r.k3, .bool true, .int .i64 0, .bool r.nT, .int .i64 r.nN] 32)) = w3 at *
  generalize w2.heap.size = m at *
  have kS : ∀ W, Below w3.heap.size w3 W → (W.cell? ⟨m, 0, none⟩ = some (.int .i64 r.kind) ∧ W.cell? ⟨m, 1, none⟩ = some (.int .i64 r.tx) ∧ W.cell? ⟨m, 2, none⟩ = some (.int .u16 r.mask) ∧ W.cell? ⟨m, 3, none⟩ = some (.int .u8 r.k0) ∧ W.cell? ⟨m, 4, none⟩ = some (.int .u8 r.k1) ∧ W.cell? ⟨m, 5, none⟩ = some (.int .u8 r.k2) ∧ W.cell? ⟨m, 6, none⟩ = some (.int .u8 r.k3) ∧ W.cell? ⟨m, 7, none⟩ = some (.bool true) ∧ W.cell? ⟨m, 8, none⟩ = some (.int .i64 0) ∧ W.cell? ⟨m, 9, none⟩ = some (.bool r.nT) ∧ W.cell? ⟨m, 10, none⟩ = some (.int .i64 r.nN) ∧ W.cell? ⟨w.heap.size, 0, none⟩ = some (.int .i64 r.kind) ∧ Below w3.heap.size w3 W) := fun W hb => by
    have r' := rx.below hb rx.at_.lt
    have q' := rk.below hb rk.at_.lt
    exact ⟨r'.at_.c0, r'.at_.c1, r'.at_.c2, r'.at_.c3, r'.at_.c4, r'.at_.c5, r'.at_.c6, r'.at_.c7, r'.at_.c8, r'.at_.c9, r'.at_.c10, q'.at_.c0, hb⟩
  have kd : Below w3.heap.size w3 w3.drew := (Below.refl _ _).drew
  have KS := Lib.hid kS
  clear kS rx rk
  go_region_held3 (fun w' => (w'.cell? ⟨m, 0, none⟩ = some (.int .i64 r.kind) ∧ w'.cell? ⟨m, 1, none⟩ = some (.int .i64 r.tx) ∧ w'.cell? ⟨m, 2, none⟩ = some (.int .u16 r.mask) ∧ w'.cell? ⟨m, 3, none⟩ = some (.int .u8 r.k0) ∧ w'.cell? ⟨m, 4, none⟩ = some (.int .u8 r.k1) ∧ w'.cell? ⟨m, 5, none⟩ = some (.int .u8 r.k2) ∧ w'.cell? ⟨m, 6, none⟩ = some (.int .u8 r.k3) ∧ w'.cell? ⟨m, 7, none⟩ = some (.bool true) ∧ w'.cell? ⟨m, 8, none⟩ = some (.int .i64 0) ∧ w'.cell? ⟨m, 9, none⟩ = some (.bool r.nT) ∧ w'.cell? ⟨m, 10, none⟩ = some (.int .i64 r.nN) ∧ w'.cell? ⟨w.heap.size, 0, none⟩ = some (.int .i64 r.kind) ∧ Below w3.heap.size w3 w')) (first | assumption | exact KS.out _ kd | exact KS.out _ z4) ((go_at_call 18; (with_reducible refine (c2 _).mono ?_); rintro e w4 ⟨rfl, k4⟩; have z4 : Below w3.heap.size w3 w4 := kd.trans k4))
  go_wp2
  go_ret
  exact ⟨rfl, below_more kw3 z4 (Nat.le_refl _)⟩
set_option maxRecDepth 100000 in
set_option maxHeartbeats 1000000 in
theorem rp_1_3 (r : RecD) (ok : okR r) (hr : rightB r = true) (h1 : (r.kind == 1) = true) (h2 : (r.kind == 2) = false) (h7 : (r.kind == 7) = false) (h8 : (r.kind == 8) = false) (what : Int) (e0 : (what == 0) = false) (e1 : (what == 1) = false) (e2 : (what == 2) = false) (e3 : (what == 3) = true) (w : World) : Calls Try.prog 7 #[.agg #[.int .i64 r.kind, .int .i64 r.tx, .int .u16 r.mask, .int .u8 r.k0, .int .u8 r.k1, .int .u8 r.k2, .int .u8 r.k3, .bool r.oT, .int .i64 r.oN, .bool r.nT, .int .i64 r.nN], .int .i64 what] w fun e w' => e = .returned (.bool true) ∧ Below w.heap.size w w' := by
  have c0 : ∀ W, Calls Try.prog 8 #[] W fun e w' => e = .returned (.bool true) ∧ Below W.heap.size W w' := fun W => alive_any W
  have c1 : ∀ W, Calls Try.prog 18 #[.agg #[.int .i64 r.kind, .int .i64 r.tx, .int .u16 r.mask, .int .u8 r.k0, .int .u8 r.k1, .int .u8 r.k2, .int .u8 r.k3, .bool r.oT, .int .i64 r.oN, .bool r.nT, .int .i64 r.nN]] W fun e w' => e = .returned (.bool true) ∧ Below W.heap.size W w' := fun W => right_any r true hr W
  have c2 : ∀ W, Calls Try.prog 18 #[.agg #[.int .i64 r.kind, .int .i64 r.tx, .int .u16 r.mask, .int .u8 r.k0, .int .u8 r.k1, .int .u8 r.k2, .int .u8 r.k3, .bool r.oT, .int .i64 r.oN, .bool false, .int .i64 1]] W fun e w' => e = .returned (.bool false) ∧ Below W.heap.size W w' := fun W => right_any { r with nT := false, nN := 1 } false (plain_3 r ok hr) W
  have HB := Lib.hid (recBox_new w r)
  clear hr ok
  go_enter Try.func7, Try.ntmps7
  go_wp2_with fail
  (with_reducible refine (c0 _).mono ?_)
  rintro e w1 ⟨rfl, k1⟩
  have rb1 : RecBox w1 w.heap.size r := HB.out.below k1 (by simp)
  have kw1 : Below w.heap.size w w1 := ((Below.refl _ w).alloc (Nat.le_refl _) _).trans (k1.mono (by simp))
  clear HB k1 c0
  have mc0 : w1.cell? ⟨w.heap.size, 0, none⟩ = some (.int .i64 r.kind) := rb1.at_.c0
  have mc1 : w1.cell? ⟨w.heap.size, 1, none⟩ = some (.int .i64 r.tx) := rb1.at_.c1
  have mc2 : w1.cell? ⟨w.heap.size, 2, none⟩ = some (.int .u16 r.mask) := rb1.at_.c2
  have mc3 : w1.cell? ⟨w.heap.size, 3, none⟩ = some (.int .u8 r.k0) := rb1.at_.c3
  have mc4 : w1.cell? ⟨w.heap.size, 4, none⟩ = some (.int .u8 r.k1) := rb1.at_.c4
  have mc5 : w1.cell? ⟨w.heap.size, 5, none⟩ = some (.int .u8 r.k2) := rb1.at_.c5
  have mc6 : w1.cell? ⟨w.heap.size, 6, none⟩ = some (.int .u8 r.k3) := rb1.at_.c6
  have mc7 : w1.cell? ⟨w.heap.size, 7, none⟩ = some (.bool r.oT) := rb1.at_.c7
  have mc8 : w1.cell? ⟨w.heap.size, 8, none⟩ = some (.int .i64 r.oN) := rb1.at_.c8
  have mc9 : w1.cell? ⟨w.heap.size, 9, none⟩ = some (.bool r.nT) := rb1.at_.c9
  have mc10 : w1.cell? ⟨w.heap.size, 10, none⟩ = some (.int .i64 r.nN) := rb1.at_.c10
  go_wp2_with fail
  (with_reducible refine (c1 _).mono ?_)
  rintro e w2 ⟨rfl, k2⟩
  have rb2 := rb1.below k2 rb1.at_.lt
  have kw2 := below_more kw1 k2 (Nat.le_refl _)
  have hs2 := kw2.size
  clear rb1 k2 c1 kw1 mc0 mc1 mc2 mc3 mc4 mc5 mc6 mc7 mc8 mc9 mc10
  have mc0 : w2.cell? ⟨w.heap.size, 0, none⟩ = some (.int .i64 r.kind) := rb2.at_.c0
  have mc1 : w2.cell? ⟨w.heap.size, 1, none⟩ = some (.int .i64 r.tx) := rb2.at_.c1
  have mc2 : w2.cell? ⟨w.heap.size, 2, none⟩ = some (.int .u16 r.mask) := rb2.at_.c2
  have mc3 : w2.cell? ⟨w.heap.size, 3, none⟩ = some (.int .u8 r.k0) := rb2.at_.c3
  have mc4 : w2.cell? ⟨w.heap.size, 4, none⟩ = some (.int .u8 r.k1) := rb2.at_.c4
  have mc5 : w2.cell? ⟨w.heap.size, 5, none⟩ = some (.int .u8 r.k2) := rb2.at_.c5
  have mc6 : w2.cell? ⟨w.heap.size, 6, none⟩ = some (.int .u8 r.k3) := rb2.at_.c6
  have mc7 : w2.cell? ⟨w.heap.size, 7, none⟩ = some (.bool r.oT) := rb2.at_.c7
  have mc8 : w2.cell? ⟨w.heap.size, 8, none⟩ = some (.int .i64 r.oN) := rb2.at_.c8
  have mc9 : w2.cell? ⟨w.heap.size, 9, none⟩ = some (.bool r.nT) := rb2.at_.c9
  have mc10 : w2.cell? ⟨w.heap.size, 10, none⟩ = some (.int .i64 r.nN) := rb2.at_.c10
  go_wp2_with fail
  (with_reducible refine (c2 _).mono ?_)
  rintro e w3 ⟨rfl, k3⟩
  go_wp2
  go_ret
  refine ⟨rfl, below_more ?_ k3 (Nat.le_refl _)⟩
  repeat first | with_reducible exact kw2 | with_reducible refine below_sc ?_ hs2 _ | with_reducible refine Below.alloc ?_ hs2 _
set_option maxRecDepth 100000 in
set_option maxHeartbeats 1000000 in
theorem rp_1_4 (r : RecD) (ok : okR r) (hr : rightB r = true) (h1 : (r.kind == 1) = true) (h2 : (r.kind == 2) = false) (h7 : (r.kind == 7) = false) (h8 : (r.kind == 8) = false) (what : Int) (e0 : (what == 0) = false) (e1 : (what == 1) = false) (e2 : (what == 2) = false) (e3 : (what == 3) = false) (w : World) : Calls Try.prog 7 #[.agg #[.int .i64 r.kind, .int .i64 r.tx, .int .u16 r.mask, .int .u8 r.k0, .int .u8 r.k1, .int .u8 r.k2, .int .u8 r.k3, .bool r.oT, .int .i64 r.oN, .bool r.nT, .int .i64 r.nN], .int .i64 what] w fun e w' => e = .returned (.bool true) ∧ Below w.heap.size w w' := by
  have c0 : ∀ W, Calls Try.prog 8 #[] W fun e w' => e = .returned (.bool true) ∧ Below W.heap.size W w' := fun W => alive_any W
  have c1 : ∀ W, Calls Try.prog 18 #[.agg #[.int .i64 r.kind, .int .i64 r.tx, .int .u16 r.mask, .int .u8 r.k0, .int .u8 r.k1, .int .u8 r.k2, .int .u8 r.k3, .bool r.oT, .int .i64 r.oN, .bool r.nT, .int .i64 r.nN]] W fun e w' => e = .returned (.bool true) ∧ Below W.heap.size W w' := fun W => right_any r true hr W
  have c2 : ∀ W, Calls Try.prog 18 #[.agg #[.int .i64 r.kind, .int .i64 0, .int .u16 r.mask, .int .u8 r.k0, .int .u8 r.k1, .int .u8 r.k2, .int .u8 r.k3, .bool r.oT, .int .i64 r.oN, .bool r.nT, .int .i64 r.nN]] W fun e w' => e = .returned (.bool false) ∧ Below W.heap.size W w' := fun W => right_any { r with tx := 0 } false ((plain_4 r ok hr).trans (by simp [h7, h8])) W
  have HB := Lib.hid (recBox_new w r)
  clear hr ok
  go_enter Try.func7, Try.ntmps7
  go_wp2_with fail
  (with_reducible refine (c0 _).mono ?_)
  rintro e w1 ⟨rfl, k1⟩
  have rb1 : RecBox w1 w.heap.size r := HB.out.below k1 (by simp)
  have kw1 : Below w.heap.size w w1 := ((Below.refl _ w).alloc (Nat.le_refl _) _).trans (k1.mono (by simp))
  clear HB k1 c0
  have mc0 : w1.cell? ⟨w.heap.size, 0, none⟩ = some (.int .i64 r.kind) := rb1.at_.c0
  have mc1 : w1.cell? ⟨w.heap.size, 1, none⟩ = some (.int .i64 r.tx) := rb1.at_.c1
  have mc2 : w1.cell? ⟨w.heap.size, 2, none⟩ = some (.int .u16 r.mask) := rb1.at_.c2
  have mc3 : w1.cell? ⟨w.heap.size, 3, none⟩ = some (.int .u8 r.k0) := rb1.at_.c3
  have mc4 : w1.cell? ⟨w.heap.size, 4, none⟩ = some (.int .u8 r.k1) := rb1.at_.c4
  have mc5 : w1.cell? ⟨w.heap.size, 5, none⟩ = some (.int .u8 r.k2) := rb1.at_.c5
  have mc6 : w1.cell? ⟨w.heap.size, 6, none⟩ = some (.int .u8 r.k3) := rb1.at_.c6
  have mc7 : w1.cell? ⟨w.heap.size, 7, none⟩ = some (.bool r.oT) := rb1.at_.c7
  have mc8 : w1.cell? ⟨w.heap.size, 8, none⟩ = some (.int .i64 r.oN) := rb1.at_.c8
  have mc9 : w1.cell? ⟨w.heap.size, 9, none⟩ = some (.bool r.nT) := rb1.at_.c9
  have mc10 : w1.cell? ⟨w.heap.size, 10, none⟩ = some (.int .i64 r.nN) := rb1.at_.c10
  go_wp2_with fail
  (with_reducible refine (c1 _).mono ?_)
  rintro e w2 ⟨rfl, k2⟩
  have rb2 := rb1.below k2 rb1.at_.lt
  have kw2 := below_more kw1 k2 (Nat.le_refl _)
  have hs2 := kw2.size
  clear rb1 k2 c1 kw1 mc0 mc1 mc2 mc3 mc4 mc5 mc6 mc7 mc8 mc9 mc10
  have mc0 : w2.cell? ⟨w.heap.size, 0, none⟩ = some (.int .i64 r.kind) := rb2.at_.c0
  have mc1 : w2.cell? ⟨w.heap.size, 1, none⟩ = some (.int .i64 r.tx) := rb2.at_.c1
  have mc2 : w2.cell? ⟨w.heap.size, 2, none⟩ = some (.int .u16 r.mask) := rb2.at_.c2
  have mc3 : w2.cell? ⟨w.heap.size, 3, none⟩ = some (.int .u8 r.k0) := rb2.at_.c3
  have mc4 : w2.cell? ⟨w.heap.size, 4, none⟩ = some (.int .u8 r.k1) := rb2.at_.c4
  have mc5 : w2.cell? ⟨w.heap.size, 5, none⟩ = some (.int .u8 r.k2) := rb2.at_.c5
  have mc6 : w2.cell? ⟨w.heap.size, 6, none⟩ = some (.int .u8 r.k3) := rb2.at_.c6
  have mc7 : w2.cell? ⟨w.heap.size, 7, none⟩ = some (.bool r.oT) := rb2.at_.c7
  have mc8 : w2.cell? ⟨w.heap.size, 8, none⟩ = some (.int .i64 r.oN) := rb2.at_.c8
  have mc9 : w2.cell? ⟨w.heap.size, 9, none⟩ = some (.bool r.nT) := rb2.at_.c9
  have mc10 : w2.cell? ⟨w.heap.size, 10, none⟩ = some (.int .i64 r.nN) := rb2.at_.c10
  go_wp2_with fail
  have rx : RecBox (w2.alloc (.cells #[.int .i64 r.kind, .int .i64 0, .int .u16 r.mask, .int .u8 r.k0, .int .u8 r.k1, .int .u8 r.k2, .int .u8 r.k3, .bool r.oT, .int .i64 r.oN, .bool r.nT, .int .i64 r.nN] 32)) w2.heap.size { r with tx := 0 } := recBox_new w2 { r with tx := 0 }
  have rk := rb2.below ((Below.refl w2.heap.size w2).alloc (Nat.le_refl _) (.cells #[.int .i64 r.kind, .int .i64 0, .int .u16 r.mask, .int .u8 r.k0, .int .u8 r.k1, .int .u8 r.k2, .int .u8 r.k3, .bool r.oT, .int .i64 r.oN, .bool r.nT, .int .i64 r.nN] 32)) rb2.at_.lt
  have kw3 : Below w.heap.size w (w2.alloc (.cells #[.int .i64 r.kind, .int .i64 0, .int .u16 r.mask, .int .u8 r.k0, .int .u8 r.k1, .int .u8 r.k2, .int .u8 r.k3, .bool r.oT, .int .i64 r.oN, .bool r.nT, .int .i64 r.nN] 32)) := kw2.alloc hs2 _
  clear kw2 hs2 rb2 mc0 mc1 mc2 mc3 mc4 mc5 mc6 mc7 mc8 mc9 mc10
  generalize (w2.alloc (.cells #[.int .i64 r.kind, .int .i64 0, .int .u16 r.mask, .int .u8 r.k0, .int .u8 r.k1, .int .u8 r.k2, .int .u8 r.k3, .bool r.oT, .int .i64 r.oN, .bool r.nT, .int .i64 r.nN] 32)) = w3 at *
  generalize w2.heap.size = m at *
  have kS : ∀ W, Below w3.heap.size w3 W → (W.cell? ⟨m, 0, none⟩ = some (.int .i64 r.kind) ∧ W.cell? ⟨m, 1, none⟩ = some (.int .i64 0) ∧ W.cell? ⟨m, 2, none⟩ = some (.int .u16 r.mask) ∧ W.cell? ⟨m, 3, none⟩ = some (.int .u8 r.k0) ∧ W.cell? ⟨m, 4, none⟩ = some (.int .u8 r.k1) ∧ W.cell? ⟨m, 5, none⟩ = some (.int .u8 r.k2) ∧ W.cell? ⟨m, 6, none⟩ = some (.int .u8 r.k3) ∧ W.cell? ⟨m, 7, none⟩ = some (.bool r.oT) ∧ W.cell? ⟨m, 8, none⟩ = some (.int .i64 r.oN) ∧ W.cell? ⟨m, 9, none⟩ = some (.bool r.nT) ∧ W.cell? ⟨m, 10, none⟩ = some (.int .i64 r.nN) ∧ W.cell? ⟨w.heap.size, 0, none⟩ = some (.int .i64 r.kind) ∧ Below w3.heap.size w3 W) := fun W hb => by
    have r' := rx.below hb rx.at_.lt
    have q' := rk.below hb rk.at_.lt
    exact ⟨r'.at_.c0, r'.at_.c1, r'.at_.c2, r'.at_.c3, r'.at_.c4, r'.at_.c5, r'.at_.c6, r'.at_.c7, r'.at_.c8, r'.at_.c9, r'.at_.c10, q'.at_.c0, hb⟩
  have kd : Below w3.heap.size w3 w3.drew := (Below.refl _ _).drew
  have KS := Lib.hid kS
  clear kS rx rk
  go_region_held3 (fun w' => (w'.cell? ⟨m, 0, none⟩ = some (.int .i64 r.kind) ∧ w'.cell? ⟨m, 1, none⟩ = some (.int .i64 0) ∧ w'.cell? ⟨m, 2, none⟩ = some (.int .u16 r.mask) ∧ w'.cell? ⟨m, 3, none⟩ = some (.int .u8 r.k0) ∧ w'.cell? ⟨m, 4, none⟩ = some (.int .u8 r.k1) ∧ w'.cell? ⟨m, 5, none⟩ = some (.int .u8 r.k2) ∧ w'.cell? ⟨m, 6, none⟩ = some (.int .u8 r.k3) ∧ w'.cell? ⟨m, 7, none⟩ = some (.bool r.oT) ∧ w'.cell? ⟨m, 8, none⟩ = some (.int .i64 r.oN) ∧ w'.cell? ⟨m, 9, none⟩ = some (.bool r.nT) ∧ w'.cell? ⟨m, 10, none⟩ = some (.int .i64 r.nN) ∧ w'.cell? ⟨w.heap.size, 0, none⟩ = some (.int .i64 r.kind) ∧ Below w3.heap.size w3 w')) (first | assumption | exact KS.out _ kd | exact KS.out _ z4) ((go_at_call 18; (with_reducible refine (c2 _).mono ?_); rintro e w4 ⟨rfl, k4⟩; have z4 : Below w3.heap.size w3 w4 := kd.trans k4))
  go_wp2
  go_ret
  exact ⟨rfl, below_more kw3 z4 (Nat.le_refl _)⟩
set_option maxRecDepth 100000 in
set_option maxHeartbeats 1000000 in
theorem rp_2_0 (r : RecD) (ok : okR r) (hr : rightB r = true) (h1 : (r.kind == 1) = false) (h2 : (r.kind == 2) = true) (h7 : (r.kind == 7) = false) (h8 : (r.kind == 8) = false) (what : Int) (e0 : (what == 0) = true) (w : World) : Calls Try.prog 7 #[.agg #[.int .i64 r.kind, .int .i64 r.tx, .int .u16 r.mask, .int .u8 r.k0, .int .u8 r.k1, .int .u8 r.k2, .int .u8 r.k3, .bool r.oT, .int .i64 r.oN, .bool r.nT, .int .i64 r.nN], .int .i64 what] w fun e w' => e = .returned (.bool true) ∧ Below w.heap.size w w' := by
  have c0 : ∀ W, Calls Try.prog 8 #[] W fun e w' => e = .returned (.bool true) ∧ Below W.heap.size W w' := fun W => alive_any W
  have c1 : ∀ W, Calls Try.prog 18 #[.agg #[.int .i64 r.kind, .int .i64 r.tx, .int .u16 r.mask, .int .u8 r.k0, .int .u8 r.k1, .int .u8 r.k2, .int .u8 r.k3, .bool r.oT, .int .i64 r.oN, .bool r.nT, .int .i64 r.nN]] W fun e w' => e = .returned (.bool true) ∧ Below W.heap.size W w' := fun W => right_any r true hr W
  have c2 : ∀ W, Calls Try.prog 18 #[.agg #[.int .i64 r.kind, .int .i64 r.tx, .int .u16 r.mask, .int .u8 r.k0, .int .u8 r.k1, .int .u8 r.k2, .int .u8 ((r.k3 + 1) % 256), .bool r.oT, .int .i64 r.oN, .bool r.nT, .int .i64 r.nN]] W fun e w' => e = .returned (.bool false) ∧ Below W.heap.size W w' := fun W => right_any { r with k3 := (r.k3 + 1) % 256 } false ((plain_0 r ok hr).trans (by simp [h1, h7])) W
  have hzw : IntKind.u8.wrap (r.k3 + 1) = (r.k3 + 1) % 256 := by rw [IntKind.wrap_u8]
  generalize (r.k3 + 1) % 256 = z at *
  have HB := Lib.hid (recBox_new w r)
  clear hr ok
  go_enter Try.func7, Try.ntmps7
  go_wp2_with fail
  (with_reducible refine (c0 _).mono ?_)
  rintro e w1 ⟨rfl, k1⟩
  have rb1 : RecBox w1 w.heap.size r := HB.out.below k1 (by simp)
  have kw1 : Below w.heap.size w w1 := ((Below.refl _ w).alloc (Nat.le_refl _) _).trans (k1.mono (by simp))
  clear HB k1 c0
  have mc0 : w1.cell? ⟨w.heap.size, 0, none⟩ = some (.int .i64 r.kind) := rb1.at_.c0
  have mc1 : w1.cell? ⟨w.heap.size, 1, none⟩ = some (.int .i64 r.tx) := rb1.at_.c1
  have mc2 : w1.cell? ⟨w.heap.size, 2, none⟩ = some (.int .u16 r.mask) := rb1.at_.c2
  have mc3 : w1.cell? ⟨w.heap.size, 3, none⟩ = some (.int .u8 r.k0) := rb1.at_.c3
  have mc4 : w1.cell? ⟨w.heap.size, 4, none⟩ = some (.int .u8 r.k1) := rb1.at_.c4
  have mc5 : w1.cell? ⟨w.heap.size, 5, none⟩ = some (.int .u8 r.k2) := rb1.at_.c5
  have mc6 : w1.cell? ⟨w.heap.size, 6, none⟩ = some (.int .u8 r.k3) := rb1.at_.c6
  have mc7 : w1.cell? ⟨w.heap.size, 7, none⟩ = some (.bool r.oT) := rb1.at_.c7
  have mc8 : w1.cell? ⟨w.heap.size, 8, none⟩ = some (.int .i64 r.oN) := rb1.at_.c8
  have mc9 : w1.cell? ⟨w.heap.size, 9, none⟩ = some (.bool r.nT) := rb1.at_.c9
  have mc10 : w1.cell? ⟨w.heap.size, 10, none⟩ = some (.int .i64 r.nN) := rb1.at_.c10
  go_wp2_with fail
  (with_reducible refine (c1 _).mono ?_)
  rintro e w2 ⟨rfl, k2⟩
  have rb2 := rb1.below k2 rb1.at_.lt
  have kw2 := below_more kw1 k2 (Nat.le_refl _)
  have hs2 := kw2.size
  clear rb1 k2 c1 kw1 mc0 mc1 mc2 mc3 mc4 mc5 mc6 mc7 mc8 mc9 mc10
  have mc0 : w2.cell? ⟨w.heap.size, 0, none⟩ = some (.int .i64 r.kind) := rb2.at_.c0
  have mc1 : w2.cell? ⟨w.heap.size, 1, none⟩ = some (.int .i64 r.tx) := rb2.at_.c1
  have mc2 : w2.cell? ⟨w.heap.size, 2, none⟩ = some (.int .u16 r.mask) := rb2.at_.c2
  have mc3 : w2.cell? ⟨w.heap.size, 3, none⟩ = some (.int .u8 r.k0) := rb2.at_.c3
  have mc4 : w2.cell? ⟨w.heap.size, 4, none⟩ = some (.int .u8 r.k1) := rb2.at_.c4
  have mc5 : w2.cell? ⟨w.heap.size, 5, none⟩ = some (.int .u8 r.k2) := rb2.at_.c5
  have mc6 : w2.cell? ⟨w.heap.size, 6, none⟩ = some (.int .u8 r.k3) := rb2.at_.c6
  have mc7 : w2.cell? ⟨w.heap.size, 7, none⟩ = some (.bool r.oT) := rb2.at_.c7
  have mc8 : w2.cell? ⟨w.heap.size, 8, none⟩ = some (.int .i64 r.oN) := rb2.at_.c8
  have mc9 : w2.cell? ⟨w.heap.size, 9, none⟩ = some (.bool r.nT) := rb2.at_.c9
  have mc10 : w2.cell? ⟨w.heap.size, 10, none⟩ = some (.int .i64 r.nN) := rb2.at_.c10
  go_wp2_with fail
  (with_reducible refine (c2 _).mono ?_)
  rintro e w3 ⟨rfl, k3⟩
  go_wp2
  go_ret
  refine ⟨rfl, below_more ?_ k3 (Nat.le_refl _)⟩
  repeat first | with_reducible exact kw2 | with_reducible refine below_sc ?_ hs2 _ | with_reducible refine Below.alloc ?_ hs2 _
set_option maxRecDepth 100000 in
set_option maxHeartbeats 1000000 in
theorem rp_2_1 (r : RecD) (ok : okR r) (hr : rightB r = true) (h1 : (r.kind == 1) = false) (h2 : (r.kind == 2) = true) (h7 : (r.kind == 7) = false) (h8 : (r.kind == 8) = false) (what : Int) (e0 : (what == 0) = false) (e1 : (what == 1) = true) (w : World) : Calls Try.prog 7 #[.agg #[.int .i64 r.kind, .int .i64 r.tx, .int .u16 r.mask, .int .u8 r.k0, .int .u8 r.k1, .int .u8 r.k2, .int .u8 r.k3, .bool r.oT, .int .i64 r.oN, .bool r.nT, .int .i64 r.nN], .int .i64 what] w fun e w' => e = .returned (.bool true) ∧ Below w.heap.size w w' := by
  have c0 : ∀ W, Calls Try.prog 8 #[] W fun e w' => e = .returned (.bool true) ∧ Below W.heap.size W w' := fun W => alive_any W
  have c1 : ∀ W, Calls Try.prog 18 #[.agg #[.int .i64 r.kind, .int .i64 r.tx, .int .u16 r.mask, .int .u8 r.k0, .int .u8 r.k1, .int .u8 r.k2, .int .u8 r.k3, .bool r.oT, .int .i64 r.oN, .bool r.nT, .int .i64 r.nN]] W fun e w' => e = .returned (.bool true) ∧ Below W.heap.size W w' := fun W => right_any r true hr W
  have HB := Lib.hid (recBox_new w r)
  clear hr ok
  go_enter Try.func7, Try.ntmps7
  go_wp2_with fail
  (with_reducible refine (c0 _).mono ?_)
  rintro e w1 ⟨rfl, k1⟩
  have rb1 : RecBox w1 w.heap.size r := HB.out.below k1 (by simp)
  have kw1 : Below w.heap.size w w1 := ((Below.refl _ w).alloc (Nat.le_refl _) _).trans (k1.mono (by simp))
  clear HB k1 c0
  have mc0 : w1.cell? ⟨w.heap.size, 0, none⟩ = some (.int .i64 r.kind) := rb1.at_.c0
  have mc1 : w1.cell? ⟨w.heap.size, 1, none⟩ = some (.int .i64 r.tx) := rb1.at_.c1
  have mc2 : w1.cell? ⟨w.heap.size, 2, none⟩ = some (.int .u16 r.mask) := rb1.at_.c2
  have mc3 : w1.cell? ⟨w.heap.size, 3, none⟩ = some (.int .u8 r.k0) := rb1.at_.c3
  have mc4 : w1.cell? ⟨w.heap.size, 4, none⟩ = some (.int .u8 r.k1) := rb1.at_.c4
  have mc5 : w1.cell? ⟨w.heap.size, 5, none⟩ = some (.int .u8 r.k2) := rb1.at_.c5
  have mc6 : w1.cell? ⟨w.heap.size, 6, none⟩ = some (.int .u8 r.k3) := rb1.at_.c6
  have mc7 : w1.cell? ⟨w.heap.size, 7, none⟩ = some (.bool r.oT) := rb1.at_.c7
  have mc8 : w1.cell? ⟨w.heap.size, 8, none⟩ = some (.int .i64 r.oN) := rb1.at_.c8
  have mc9 : w1.cell? ⟨w.heap.size, 9, none⟩ = some (.bool r.nT) := rb1.at_.c9
  have mc10 : w1.cell? ⟨w.heap.size, 10, none⟩ = some (.int .i64 r.nN) := rb1.at_.c10
  go_wp2_with fail
  (with_reducible refine (c1 _).mono ?_)
  rintro e w2 ⟨rfl, k2⟩
  have rb2 := rb1.below k2 rb1.at_.lt
  have kw2 := below_more kw1 k2 (Nat.le_refl _)
  have hs2 := kw2.size
  clear rb1 k2 c1 kw1 mc0 mc1 mc2 mc3 mc4 mc5 mc6 mc7 mc8 mc9 mc10
  have mc0 : w2.cell? ⟨w.heap.size, 0, none⟩ = some (.int .i64 r.kind) := rb2.at_.c0
  have mc1 : w2.cell? ⟨w.heap.size, 1, none⟩ = some (.int .i64 r.tx) := rb2.at_.c1
  have mc2 : w2.cell? ⟨w.heap.size, 2, none⟩ = some (.int .u16 r.mask) := rb2.at_.c2
  have mc3 : w2.cell? ⟨w.heap.size, 3, none⟩ = some (.int .u8 r.k0) := rb2.at_.c3
  have mc4 : w2.cell? ⟨w.heap.size, 4, none⟩ = some (.int .u8 r.k1) := rb2.at_.c4
  have mc5 : w2.cell? ⟨w.heap.size, 5, none⟩ = some (.int .u8 r.k2) := rb2.at_.c5
  have mc6 : w2.cell? ⟨w.heap.size, 6, none⟩ = some (.int .u8 r.k3) := rb2.at_.c6
  have mc7 : w2.cell? ⟨w.heap.size, 7, none⟩ = some (.bool r.oT) := rb2.at_.c7
  have mc8 : w2.cell? ⟨w.heap.size, 8, none⟩ = some (.int .i64 r.oN) := rb2.at_.c8
  have mc9 : w2.cell? ⟨w.heap.size, 9, none⟩ = some (.bool r.nT) := rb2.at_.c9
  have mc10 : w2.cell? ⟨w.heap.size, 10, none⟩ = some (.int .i64 r.nN) := rb2.at_.c10
  go_wp2
  go_ret
  refine ⟨rfl, ?_⟩
  repeat first | with_reducible exact kw2 | with_reducible refine below_sc ?_ hs2 _ | with_reducible refine Below.alloc ?_ hs2 _
set_option maxRecDepth 100000 in
set_option maxHeartbeats 1000000 in
theorem rp_2_2 (r : RecD) (ok : okR r) (hr : rightB r = true) (h1 : (r.kind == 1) = false) (h2 : (r.kind == 2) = true) (h7 : (r.kind == 7) = false) (h8 : (r.kind == 8) = false) (what : Int) (e0 : (what == 0) = false) (e1 : (what == 1) = false) (e2 : (what == 2) = true) (w : World) : Calls Try.prog 7 #[.agg #[.int .i64 r.kind, .int .i64 r.tx, .int .u16 r.mask, .int .u8 r.k0, .int .u8 r.k1, .int .u8 r.k2, .int .u8 r.k3, .bool r.oT, .int .i64 r.oN, .bool r.nT, .int .i64 r.nN], .int .i64 what] w fun e w' => e = .returned (.bool true) ∧ Below w.heap.size w w' := by
  have c0 : ∀ W, Calls Try.prog 8 #[] W fun e w' => e = .returned (.bool true) ∧ Below W.heap.size W w' := fun W => alive_any W
  have c1 : ∀ W, Calls Try.prog 18 #[.agg #[.int .i64 r.kind, .int .i64 r.tx, .int .u16 r.mask, .int .u8 r.k0, .int .u8 r.k1, .int .u8 r.k2, .int .u8 r.k3, .bool r.oT, .int .i64 r.oN, .bool r.nT, .int .i64 r.nN]] W fun e w' => e = .returned (.bool true) ∧ Below W.heap.size W w' := fun W => right_any r true hr W
  have c2 : ∀ W, Calls Try.prog 18 #[.agg #[.int .i64 r.kind, .int .i64 r.tx, .int .u16 r.mask, .int .u8 r.k0, .int .u8 r.k1, .int .u8 r.k2, .int .u8 r.k3, .bool true, .int .i64 0, .bool r.nT, .int .i64 r.nN]] W fun e w' => e = .returned (.bool false) ∧ Below W.heap.size W w' := fun W => right_any { r with oT := true, oN := 0 } false ((plain_2 r ok hr).trans (by simp [h1])) W
  have HB := Lib.hid (recBox_new w r)
  clear hr ok
  go_enter Try.func7, Try.ntmps7
  go_wp2_with fail
  (with_reducible refine (c0 _).mono ?_)
  rintro e w1 ⟨rfl, k1⟩
  have rb1 : RecBox w1 w.heap.size r := HB.out.below k1 (by simp)
  have kw1 : Below w.heap.size w w1 := ((Below.refl _ w).alloc (Nat.le_refl _) _).trans (k1.mono (by simp))
  clear HB k1 c0
  have mc0 : w1.cell? ⟨w.heap.size, 0, none⟩ = some (.int .i64 r.kind) := rb1.at_.c0
  have mc1 : w1.cell? ⟨w.heap.size, 1, none⟩ = some (.int .i64 r.tx) := rb1.at_.c1
  have mc2 : w1.cell? ⟨w.heap.size, 2, none⟩ = some (.int .u16 r.mask) := rb1.at_.c2
  have mc3 : w1.cell? ⟨w.heap.size, 3, none⟩ = some (.int .u8 r.k0) := rb1.at_.c3
  have mc4 : w1.cell? ⟨w.heap.size, 4, none⟩ = some (.int .u8 r.k1) := rb1.at_.c4
  have mc5 : w1.cell? ⟨w.heap.size, 5, none⟩ = some (.int .u8 r.k2) := rb1.at_.c5
  have mc6 : w1.cell? ⟨w.heap.size, 6, none⟩ = some (.int .u8 r.k3) := rb1.at_.c6
  have mc7 : w1.cell? ⟨w.heap.size, 7, none⟩ = some (.bool r.oT) := rb1.at_.c7
  have mc8 : w1.cell? ⟨w.heap.size, 8, none⟩ = some (.int .i64 r.oN) := rb1.at_.c8
  have mc9 : w1.cell? ⟨w.heap.size, 9, none⟩ = some (.bool r.nT) := rb1.at_.c9
  have mc10 : w1.cell? ⟨w.heap.size, 10, none⟩ = some (.int .i64 r.nN) := rb1.at_.c10
  go_wp2_with fail
  (with_reducible refine (c1 _).mono ?_)
  rintro e w2 ⟨rfl, k2⟩
  have rb2 := rb1.below k2 rb1.at_.lt
  have kw2 := below_more kw1 k2 (Nat.le_refl _)
  have hs2 := kw2.size
  clear rb1 k2 c1 kw1 mc0 mc1 mc2 mc3 mc4 mc5 mc6 mc7 mc8 mc9 mc10
  have mc0 : w2.cell? ⟨w.heap.size, 0, none⟩ = some (.int .i64 r.kind) := rb2.at_.c0
  have mc1 : w2.cell? ⟨w.heap.size, 1, none⟩ = some (.int .i64 r.tx) := rb2.at_.c1
  have mc2 : w2.cell? ⟨w.heap.size, 2, none⟩ = some (.int .u16 r.mask) := rb2.at_.c2
  have mc3 : w2.cell? ⟨w.heap.size, 3, none⟩ = some (.int .u8 r.k0) := rb2.at_.c3
  have mc4 : w2.cell? ⟨w.heap.size, 4, none⟩ = some (.int .u8 r.k1) := rb2.at_.c4
  have mc5 : w2.cell? ⟨w.heap.size, 5, none⟩ = some (.int .u8 r.k2) := rb2.at_.c5
  have mc6 : w2.cell? ⟨w.heap.size, 6, none⟩ = some (.int .u8 r.k3) := rb2.at_.c6
  have mc7 : w2.cell? ⟨w.heap.size, 7, none⟩ = some (.bool r.oT) := rb2.at_.c7
  have mc8 : w2.cell? ⟨w.heap.size, 8, none⟩ = some (.int .i64 r.oN) := rb2.at_.c8
  have mc9 : w2.cell? ⟨w.heap.size, 9, none⟩ = some (.bool r.nT) := rb2.at_.c9
  have mc10 : w2.cell? ⟨w.heap.size, 10, none⟩ = some (.int .i64 r.nN) := rb2.at_.c10
  go_wp2_with fail
  have rx : RecBox (w2.alloc (.cells #[.int .i64 r.kind, .int .i64 r.tx, .int .u16 r.mask, .int .u8 r.k0, .int .u8 r.k1, .int .u8 r.k2, .int .u8 r.k3, .bool true, .int .i64 0, .bool r.nT, .int .i64 r.nN] 32)) w2.heap.size { r with oT := true, oN := 0 } := recBox_new w2 { r with oT := true, oN := 0 }
  have rk := rb2.below ((Below.refl w2.heap.size w2).alloc (Nat.le_refl _) (.cells #[.int .i64 r.kind, .int .i64 r.tx, .int .u16 r.mask, .int .u8 r.k0, .int .u8 r.k1, .int .u8 r.k2, .int .u8 r.k3, .bool true, .int .i64 0, .bool r.nT, .int .i64 r.nN] 32)) rb2.at_.lt
  have kw3 : Below w.heap.size w (w2.alloc (.cells #[.int .i64 r.kind, .int .i64 r.tx, .int .u16 r.mask, .int .u8 r.k0, .int .u8 r.k1, .int .u8 r.k2, .int .u8 r.k3, .bool true, .int .i64 0, .bool r.nT, .int .i64 r.nN] 32)) := kw2.alloc hs2 _
  clear kw2 hs2 rb2 mc0 mc1 mc2 mc3 mc4 mc5 mc6 mc7 mc8 mc9 mc10
  generalize (w2.alloc (.cells #[.int .i64 r.kind, .int .i64 r.tx, .int .u16 r.mask, .int .u8 r.k0, .int .u8 r.k1, .int .u8 r.k2, .int .u8 r.k3, .bool true, .int .i64 0, .bool r.nT, .int .i64 r.nN] 32)) = w3 at *
  generalize w2.heap.size = m at *
  have kS : ∀ W, Below w3.heap.size w3 W → (W.cell? ⟨m, 0, none⟩ = some (.int .i64 r.kind) ∧ W.cell? ⟨m, 1, none⟩ = some (.int .i64 r.tx) ∧ W.cell? ⟨m, 2, none⟩ = some (.int .u16 r.mask) ∧ W.cell? ⟨m, 3, none⟩ = some (.int .u8 r.k0) ∧ W.cell? ⟨m, 4, none⟩ = some (.int .u8 r.k1) ∧ W.cell? ⟨m, 5, none⟩ = some (.int .u8 r.k2) ∧ W.cell? ⟨m, 6, none⟩ = some (.int .u8 r.k3) ∧ W.cell? ⟨m, 7, none⟩ = some (.bool true) ∧ W.cell? ⟨m, 8, none⟩ = some (.int .i64 0) ∧ W.cell? ⟨m, 9, none⟩ = some (.bool r.nT) ∧ W.cell? ⟨m, 10, none⟩ = some (.int .i64 r.nN) ∧ W.cell? ⟨w.heap.size, 0, none⟩ = some (.int .i64 r.kind) ∧ Below w3.heap.size w3 W) := fun W hb => by
    have r' := rx.below hb rx.at_.lt
    have q' := rk.below hb rk.at_.lt
    exact ⟨r'.at_.c0, r'.at_.c1, r'.at_.c2, r'.at_.c3, r'.at_.c4, r'.at_.c5, r'.at_.c6, r'.at_.c7, r'.at_.c8, r'.at_.c9, r'.at_.c10, q'.at_.c0, hb⟩
  have kd : Below w3.heap.size w3 w3.drew := (Below.refl _ _).drew
  have KS := Lib.hid kS
  clear kS rx rk
  go_region_held3 (fun w' => (w'.cell? ⟨m, 0, none⟩ = some (.int .i64 r.kind) ∧ w'.cell? ⟨m, 1, none⟩ = some (.int .i64 r.tx) ∧ w'.cell? ⟨m, 2, none⟩ = some (.int .u16 r.mask) ∧ w'.cell? ⟨m, 3, none⟩ = some (.int .u8 r.k0) ∧ w'.cell? ⟨m, 4, none⟩ = some (.int .u8 r.k1) ∧ w'.cell? ⟨m, 5, none⟩ = some (.int .u8 r.k2) ∧ w'.cell? ⟨m, 6, none⟩ = some (.int .u8 r.k3) ∧ w'.cell? ⟨m, 7, none⟩ = some (.bool true) ∧ w'.cell? ⟨m, 8, none⟩ = some (.int .i64 0) ∧ w'.cell? ⟨m, 9, none⟩ = some (.bool r.nT) ∧ w'.cell? ⟨m, 10, none⟩ = some (.int .i64 r.nN) ∧ w'.cell? ⟨w.heap.size, 0, none⟩ = some (.int .i64 r.kind) ∧ Below w3.heap.size w3 w')) (first | assumption | exact KS.out _ kd | exact KS.out _ z4) ((go_at_call 18; (with_reducible refine (c2 _).mono ?_); rintro e w4 ⟨rfl, k4⟩; have z4 : Below w3.heap.size w3 w4 := kd.trans k4))
  go_wp2
  go_ret
  exact ⟨rfl, below_more kw3 z4 (Nat.le_refl _)⟩
set_option maxRecDepth 100000 in
set_option maxHeartbeats 1000000 in
theorem rp_2_3 (r : RecD) (ok : okR r) (hr : rightB r = true) (h1 : (r.kind == 1) = false) (h2 : (r.kind == 2) = true) (h7 : (r.kind == 7) = false) (h8 : (r.kind == 8) = false) (what : Int) (e0 : (what == 0) = false) (e1 : (what == 1) = false) (e2 : (what == 2) = false) (e3 : (what == 3) = true) (w : World) : Calls Try.prog 7 #[.agg #[.int .i64 r.kind, .int .i64 r.tx, .int .u16 r.mask, .int .u8 r.k0, .int .u8 r.k1, .int .u8 r.k2, .int .u8 r.k3, .bool r.oT, .int .i64 r.oN, .bool r.nT, .int .i64 r.nN], .int .i64 what] w fun e w' => e = .returned (.bool true) ∧ Below w.heap.size w w' := by
  have c0 : ∀ W, Calls Try.prog 8 #[] W fun e w' => e = .returned (.bool true) ∧ Below W.heap.size W w' := fun W => alive_any W
  have c1 : ∀ W, Calls Try.prog 18 #[.agg #[.int .i64 r.kind, .int .i64 r.tx, .int .u16 r.mask, .int .u8 r.k0, .int .u8 r.k1, .int .u8 r.k2, .int .u8 r.k3, .bool r.oT, .int .i64 r.oN, .bool r.nT, .int .i64 r.nN]] W fun e w' => e = .returned (.bool true) ∧ Below W.heap.size W w' := fun W => right_any r true hr W
  have c2 : ∀ W, Calls Try.prog 18 #[.agg #[.int .i64 r.kind, .int .i64 r.tx, .int .u16 r.mask, .int .u8 r.k0, .int .u8 r.k1, .int .u8 r.k2, .int .u8 r.k3, .bool r.oT, .int .i64 r.oN, .bool false, .int .i64 1]] W fun e w' => e = .returned (.bool false) ∧ Below W.heap.size W w' := fun W => right_any { r with nT := false, nN := 1 } false (plain_3 r ok hr) W
  have HB := Lib.hid (recBox_new w r)
  clear hr ok
  go_enter Try.func7, Try.ntmps7
  go_wp2_with fail
  (with_reducible refine (c0 _).mono ?_)
  rintro e w1 ⟨rfl, k1⟩
  have rb1 : RecBox w1 w.heap.size r := HB.out.below k1 (by simp)
  have kw1 : Below w.heap.size w w1 := ((Below.refl _ w).alloc (Nat.le_refl _) _).trans (k1.mono (by simp))
  clear HB k1 c0
  have mc0 : w1.cell? ⟨w.heap.size, 0, none⟩ = some (.int .i64 r.kind) := rb1.at_.c0
  have mc1 : w1.cell? ⟨w.heap.size, 1, none⟩ = some (.int .i64 r.tx) := rb1.at_.c1
  have mc2 : w1.cell? ⟨w.heap.size, 2, none⟩ = some (.int .u16 r.mask) := rb1.at_.c2
  have mc3 : w1.cell? ⟨w.heap.size, 3, none⟩ = some (.int .u8 r.k0) := rb1.at_.c3
  have mc4 : w1.cell? ⟨w.heap.size, 4, none⟩ = some (.int .u8 r.k1) := rb1.at_.c4
  have mc5 : w1.cell? ⟨w.heap.size, 5, none⟩ = some (.int .u8 r.k2) := rb1.at_.c5
  have mc6 : w1.cell? ⟨w.heap.size, 6, none⟩ = some (.int .u8 r.k3) := rb1.at_.c6
  have mc7 : w1.cell? ⟨w.heap.size, 7, none⟩ = some (.bool r.oT) := rb1.at_.c7
  have mc8 : w1.cell? ⟨w.heap.size, 8, none⟩ = some (.int .i64 r.oN) := rb1.at_.c8
  have mc9 : w1.cell? ⟨w.heap.size, 9, none⟩ = some (.bool r.nT) := rb1.at_.c9
  have mc10 : w1.cell? ⟨w.heap.size, 10, none⟩ = some (.int .i64 r.nN) := rb1.at_.c10
  go_wp2_with fail
  (with_reducible refine (c1 _).mono ?_)
  rintro e w2 ⟨rfl, k2⟩
  have rb2 := rb1.below k2 rb1.at_.lt
  have kw2 := below_more kw1 k2 (Nat.le_refl _)
  have hs2 := kw2.size
  clear rb1 k2 c1 kw1 mc0 mc1 mc2 mc3 mc4 mc5 mc6 mc7 mc8 mc9 mc10
  have mc0 : w2.cell? ⟨w.heap.size, 0, none⟩ = some (.int .i64 r.kind) := rb2.at_.c0
  have mc1 : w2.cell? ⟨w.heap.size, 1, none⟩ = some (.int .i64 r.tx) := rb2.at_.c1
  have mc2 : w2.cell? ⟨w.heap.size, 2, none⟩ = some (.int .u16 r.mask) := rb2.at_.c2
  have mc3 : w2.cell? ⟨w.heap.size, 3, none⟩ = some (.int .u8 r.k0) := rb2.at_.c3
  have mc4 : w2.cell? ⟨w.heap.size, 4, none⟩ = some (.int .u8 r.k1) := rb2.at_.c4
  have mc5 : w2.cell? ⟨w.heap.size, 5, none⟩ = some (.int .u8 r.k2) := rb2.at_.c5
  have mc6 : w2.cell? ⟨w.heap.size, 6, none⟩ = some (.int .u8 r.k3) := rb2.at_.c6
  have mc7 : w2.cell? ⟨w.heap.size, 7, none⟩ = some (.bool r.oT) := rb2.at_.c7
  have mc8 : w2.cell? ⟨w.heap.size, 8, none⟩ = some (.int .i64 r.oN) := rb2.at_.c8
  have mc9 : w2.cell? ⟨w.heap.size, 9, none⟩ = some (.bool r.nT) := rb2.at_.c9
  have mc10 : w2.cell? ⟨w.heap.size, 10, none⟩ = some (.int .i64 r.nN) := rb2.at_.c10
  go_wp2_with fail
  (with_reducible refine (c2 _).mono ?_)
  rintro e w3 ⟨rfl, k3⟩
  go_wp2
  go_ret
  refine ⟨rfl, below_more ?_ k3 (Nat.le_refl _)⟩
  repeat first | with_reducible exact kw2 | with_reducible refine below_sc ?_ hs2 _ | with_reducible refine Below.alloc ?_ hs2 _
set_option maxRecDepth 100000 in
set_option maxHeartbeats 1000000 in
theorem rp_2_4 (r : RecD) (ok : okR r) (hr : rightB r = true) (h1 : (r.kind == 1) = false) (h2 : (r.kind == 2) = true) (h7 : (r.kind == 7) = false) (h8 : (r.kind == 8) = false) (what : Int) (e0 : (what == 0) = false) (e1 : (what == 1) = false) (e2 : (what == 2) = false) (e3 : (what == 3) = false) (w : World) : Calls Try.prog 7 #[.agg #[.int .i64 r.kind, .int .i64 r.tx, .int .u16 r.mask, .int .u8 r.k0, .int .u8 r.k1, .int .u8 r.k2, .int .u8 r.k3, .bool r.oT, .int .i64 r.oN, .bool r.nT, .int .i64 r.nN], .int .i64 what] w fun e w' => e = .returned (.bool true) ∧ Below w.heap.size w w' := by
  have c0 : ∀ W, Calls Try.prog 8 #[] W fun e w' => e = .returned (.bool true) ∧ Below W.heap.size W w' := fun W => alive_any W
  have c1 : ∀ W, Calls Try.prog 18 #[.agg #[.int .i64 r.kind, .int .i64 r.tx, .int .u16 r.mask, .int .u8 r.k0, .int .u8 r.k1, .int .u8 r.k2, .int .u8 r.k3, .bool r.oT, .int .i64 r.oN, .bool r.nT, .int .i64 r.nN]] W fun e w' => e = .returned (.bool true) ∧ Below W.heap.size W w' := fun W => right_any r true hr W
  have c2 : ∀ W, Calls Try.prog 18 #[.agg #[.int .i64 r.kind, .int .i64 0, .int .u16 r.mask, .int .u8 r.k0, .int .u8 r.k1, .int .u8 r.k2, .int .u8 r.k3, .bool r.oT, .int .i64 r.oN, .bool r.nT, .int .i64 r.nN]] W fun e w' => e = .returned (.bool false) ∧ Below W.heap.size W w' := fun W => right_any { r with tx := 0 } false ((plain_4 r ok hr).trans (by simp [h7, h8])) W
  have HB := Lib.hid (recBox_new w r)
  clear hr ok
  go_enter Try.func7, Try.ntmps7
  go_wp2_with fail
  (with_reducible refine (c0 _).mono ?_)
  rintro e w1 ⟨rfl, k1⟩
  have rb1 : RecBox w1 w.heap.size r := HB.out.below k1 (by simp)
  have kw1 : Below w.heap.size w w1 := ((Below.refl _ w).alloc (Nat.le_refl _) _).trans (k1.mono (by simp))
  clear HB k1 c0
  have mc0 : w1.cell? ⟨w.heap.size, 0, none⟩ = some (.int .i64 r.kind) := rb1.at_.c0
  have mc1 : w1.cell? ⟨w.heap.size, 1, none⟩ = some (.int .i64 r.tx) := rb1.at_.c1
  have mc2 : w1.cell? ⟨w.heap.size, 2, none⟩ = some (.int .u16 r.mask) := rb1.at_.c2
  have mc3 : w1.cell? ⟨w.heap.size, 3, none⟩ = some (.int .u8 r.k0) := rb1.at_.c3
  have mc4 : w1.cell? ⟨w.heap.size, 4, none⟩ = some (.int .u8 r.k1) := rb1.at_.c4
  have mc5 : w1.cell? ⟨w.heap.size, 5, none⟩ = some (.int .u8 r.k2) := rb1.at_.c5
  have mc6 : w1.cell? ⟨w.heap.size, 6, none⟩ = some (.int .u8 r.k3) := rb1.at_.c6
  have mc7 : w1.cell? ⟨w.heap.size, 7, none⟩ = some (.bool r.oT) := rb1.at_.c7
  have mc8 : w1.cell? ⟨w.heap.size, 8, none⟩ = some (.int .i64 r.oN) := rb1.at_.c8
  have mc9 : w1.cell? ⟨w.heap.size, 9, none⟩ = some (.bool r.nT) := rb1.at_.c9
  have mc10 : w1.cell? ⟨w.heap.size, 10, none⟩ = some (.int .i64 r.nN) := rb1.at_.c10
  go_wp2_with fail
  (with_reducible refine (c1 _).mono ?_)
  rintro e w2 ⟨rfl, k2⟩
  have rb2 := rb1.below k2 rb1.at_.lt
  have kw2 := below_more kw1 k2 (Nat.le_refl _)
  have hs2 := kw2.size
  clear rb1 k2 c1 kw1 mc0 mc1 mc2 mc3 mc4 mc5 mc6 mc7 mc8 mc9 mc10
  have mc0 : w2.cell? ⟨w.heap.size, 0, none⟩ = some (.int .i64 r.kind) := rb2.at_.c0
  have mc1 : w2.cell? ⟨w.heap.size, 1, none⟩ = some (.int .i64 r.tx) := rb2.at_.c1
  have mc2 : w2.cell? ⟨w.heap.size, 2, none⟩ = some (.int .u16 r.mask) := rb2.at_.c2
  have mc3 : w2.cell? ⟨w.heap.size, 3, none⟩ = some (.int .u8 r.k0) := rb2.at_.c3
  have mc4 : w2.cell? ⟨w.heap.size, 4, none⟩ = some (.int .u8 r.k1) := rb2.at_.c4
  have mc5 : w2.cell? ⟨w.heap.size, 5, none⟩ = some (.int .u8 r.k2) := rb2.at_.c5
  have mc6 : w2.cell? ⟨w.heap.size, 6, none⟩ = some (.int .u8 r.k3) := rb2.at_.c6
  have mc7 : w2.cell? ⟨w.heap.size, 7, none⟩ = some (.bool r.oT) := rb2.at_.c7
  have mc8 : w2.cell? ⟨w.heap.size, 8, none⟩ = some (.int .i64 r.oN) := rb2.at_.c8
  have mc9 : w2.cell? ⟨w.heap.size, 9, none⟩ = some (.bool r.nT) := rb2.at_.c9
  have mc10 : w2.cell? ⟨w.heap.size, 10, none⟩ = some (.int .i64 r.nN) := rb2.at_.c10
  go_wp2_with fail
  have rx : RecBox (w2.alloc (.cells #[.int .i64 r.kind, .int .i64 0, .int .u16 r.mask, .int .u8 r.k0, .int .u8 r.k1, .int .u8 r.k2, .int .u8 r.k3, .bool r.oT, .int .i64 r.oN, .bool r.nT, .int .i64 r.nN] 32)) w2.heap.size { r with tx := 0 } := recBox_new w2 { r with tx := 0 }
  have rk := rb2.below ((Below.refl w2.heap.size w2).alloc (Nat.le_refl _) (.cells #[.int .i64 r.kind, .int .i64 0, .int .u16 r.mask, .int .u8 r.k0, .int .u8 r.k1, .int .u8 r.k2, .int .u8 r.k3, .bool r.oT, .int .i64 r.oN, .bool r.nT, .int .i64 r.nN] 32)) rb2.at_.lt
  have kw3 : Below w.heap.size w (w2.alloc (.cells #[.int .i64 r.kind, .int .i64 0, .int .u16 r.mask, .int .u8 r.k0, .int .u8 r.k1, .int .u8 r.k2, .int .u8 r.k3, .bool r.oT, .int .i64 r.oN, .bool r.nT, .int .i64 r.nN] 32)) := kw2.alloc hs2 _
  clear kw2 hs2 rb2 mc0 mc1 mc2 mc3 mc4 mc5 mc6 mc7 mc8 mc9 mc10
  generalize (w2.alloc (.cells #[.int .i64 r.kind, .int .i64 0, .int .u16 r.mask, .int .u8 r.k0, .int .u8 r.k1, .int .u8 r.k2, .int .u8 r.k3, .bool r.oT, .int .i64 r.oN, .bool r.nT, .int .i64 r.nN] 32)) = w3 at *
  generalize w2.heap.size = m at *
  have kS : ∀ W, Below w3.heap.size w3 W → (W.cell? ⟨m, 0, none⟩ = some (.int .i64 r.kind) ∧ W.cell? ⟨m, 1, none⟩ = some (.int .i64 0) ∧ W.cell? ⟨m, 2, none⟩ = some (.int .u16 r.mask) ∧ W.cell? ⟨m, 3, none⟩ = some (.int .u8 r.k0) ∧ W.cell? ⟨m, 4, none⟩ = some (.int .u8 r.k1) ∧ W.cell? ⟨m, 5, none⟩ = some (.int .u8 r.k2) ∧ W.cell? ⟨m, 6, none⟩ = some (.int .u8 r.k3) ∧ W.cell? ⟨m, 7, none⟩ = some (.bool r.oT) ∧ W.cell? ⟨m, 8, none⟩ = some (.int .i64 r.oN) ∧ W.cell? ⟨m, 9, none⟩ = some (.bool r.nT) ∧ W.cell? ⟨m, 10, none⟩ = some (.int .i64 r.nN) ∧ W.cell? ⟨w.heap.size, 0, none⟩ = some (.int .i64 r.kind) ∧ Below w3.heap.size w3 W) := fun W hb => by
    have r' := rx.below hb rx.at_.lt
    have q' := rk.below hb rk.at_.lt
    exact ⟨r'.at_.c0, r'.at_.c1, r'.at_.c2, r'.at_.c3, r'.at_.c4, r'.at_.c5, r'.at_.c6, r'.at_.c7, r'.at_.c8, r'.at_.c9, r'.at_.c10, q'.at_.c0, hb⟩
  have kd : Below w3.heap.size w3 w3.drew := (Below.refl _ _).drew
  have KS := Lib.hid kS
  clear kS rx rk
  go_region_held3 (fun w' => (w'.cell? ⟨m, 0, none⟩ = some (.int .i64 r.kind) ∧ w'.cell? ⟨m, 1, none⟩ = some (.int .i64 0) ∧ w'.cell? ⟨m, 2, none⟩ = some (.int .u16 r.mask) ∧ w'.cell? ⟨m, 3, none⟩ = some (.int .u8 r.k0) ∧ w'.cell? ⟨m, 4, none⟩ = some (.int .u8 r.k1) ∧ w'.cell? ⟨m, 5, none⟩ = some (.int .u8 r.k2) ∧ w'.cell? ⟨m, 6, none⟩ = some (.int .u8 r.k3) ∧ w'.cell? ⟨m, 7, none⟩ = some (.bool r.oT) ∧ w'.cell? ⟨m, 8, none⟩ = some (.int .i64 r.oN) ∧ w'.cell? ⟨m, 9, none⟩ = some (.bool r.nT) ∧ w'.cell? ⟨m, 10, none⟩ = some (.int .i64 r.nN) ∧ w'.cell? ⟨w.heap.size, 0, none⟩ = some (.int .i64 r.kind) ∧ Below w3.heap.size w3 w')) (first | assumption | exact KS.out _ kd | exact KS.out _ z4) ((go_at_call 18; (with_reducible refine (c2 _).mono ?_); rintro e w4 ⟨rfl, k4⟩; have z4 : Below w3.heap.size w3 w4 := kd.trans k4))
  go_wp2
  go_ret
  exact ⟨rfl, below_more kw3 z4 (Nat.le_refl _)⟩
set_option maxRecDepth 100000 in
set_option maxHeartbeats 1000000 in
theorem rp_7_0 (r : RecD) (ok : okR r) (hr : rightB r = true) (h1 : (r.kind == 1) = false) (h2 : (r.kind == 2) = false) (h7 : (r.kind == 7) = true) (h8 : (r.kind == 8) = false) (what : Int) (e0 : (what == 0) = true) (w : World) : Calls Try.prog 7 #[.agg #[.int .i64 r.kind, .int .i64 r.tx, .int .u16 r.mask, .int .u8 r.k0, .int .u8 r.k1, .int .u8 r.k2, .int .u8 r.k3, .bool r.oT, .int .i64 r.oN, .bool r.nT, .int .i64 r.nN], .int .i64 what] w fun e w' => e = .returned (.bool true) ∧ Below w.heap.size w w' := by
  have c0 : ∀ W, Calls Try.prog 8 #[] W fun e w' => e = .returned (.bool true) ∧ Below W.heap.size W w' := fun W => alive_any W
  have c1 : ∀ W, Calls Try.prog 18 #[.agg #[.int .i64 r.kind, .int .i64 r.tx, .int .u16 r.mask, .int .u8 r.k0, .int .u8 r.k1, .int .u8 r.k2, .int .u8 r.k3, .bool r.oT, .int .i64 r.oN, .bool r.nT, .int .i64 r.nN]] W fun e w' => e = .returned (.bool true) ∧ Below W.heap.size W w' := fun W => right_any r true hr W
  have c2 : ∀ W, Calls Try.prog 18 #[.agg #[.int .i64 r.kind, .int .i64 r.tx, .int .u16 r.mask, .int .u8 r.k0, .int .u8 r.k1, .int .u8 r.k2, .int .u8 ((r.k3 + 1) % 256), .bool r.oT, .int .i64 r.oN, .bool r.nT, .int .i64 r.nN]] W fun e w' => e = .returned (.bool true) ∧ Below W.heap.size W w' := fun W => right_any { r with k3 := (r.k3 + 1) % 256 } true ((plain_0 r ok hr).trans (by simp [h1, h7])) W
  have hzw : IntKind.u8.wrap (r.k3 + 1) = (r.k3 + 1) % 256 := by rw [IntKind.wrap_u8]
  generalize (r.k3 + 1) % 256 = z at *
  have HB := Lib.hid (recBox_new w r)
  clear hr ok
  go_enter Try.func7, Try.ntmps7
  go_wp2_with fail
  (with_reducible refine (c0 _).mono ?_)
  rintro e w1 ⟨rfl, k1⟩
  have rb1 : RecBox w1 w.heap.size r := HB.out.below k1 (by simp)
  have kw1 : Below w.heap.size w w1 := ((Below.refl _ w).alloc (Nat.le_refl _) _).trans (k1.mono (by simp))
  clear HB k1 c0
  have mc0 : w1.cell? ⟨w.heap.size, 0, none⟩ = some (.int .i64 r.kind) := rb1.at_.c0
  have mc1 : w1.cell? ⟨w.heap.size, 1, none⟩ = some (.int .i64 r.tx) := rb1.at_.c1
  have mc2 : w1.cell? ⟨w.heap.size, 2, none⟩ = some (.int .u16 r.mask) := rb1.at_.c2
  have mc3 : w1.cell? ⟨w.heap.size, 3, none⟩ = some (.int .u8 r.k0) := rb1.at_.c3
  have mc4 : w1.cell? ⟨w.heap.size, 4, none⟩ = some (.int .u8 r.k1) := rb1.at_.c4
  have mc5 : w1.cell? ⟨w.heap.size, 5, none⟩ = some (.int .u8 r.k2) := rb1.at_.c5
  have mc6 : w1.cell? ⟨w.heap.size, 6, none⟩ = some (.int .u8 r.k3) := rb1.at_.c6
  have mc7 : w1.cell? ⟨w.heap.size, 7, none⟩ = some (.bool r.oT) := rb1.at_.c7
  have mc8 : w1.cell? ⟨w.heap.size, 8, none⟩ = some (.int .i64 r.oN) := rb1.at_.c8
  have mc9 : w1.cell? ⟨w.heap.size, 9, none⟩ = some (.bool r.nT) := rb1.at_.c9
  have mc10 : w1.cell? ⟨w.heap.size, 10, none⟩ = some (.int .i64 r.nN) := rb1.at_.c10
  go_wp2_with fail
  (with_reducible refine (c1 _).mono ?_)
  rintro e w2 ⟨rfl, k2⟩
  have rb2 := rb1.below k2 rb1.at_.lt
  have kw2 := below_more kw1 k2 (Nat.le_refl _)
  have hs2 := kw2.size
  clear rb1 k2 c1 kw1 mc0 mc1 mc2 mc3 mc4 mc5 mc6 mc7 mc8 mc9 mc10
  have mc0 : w2.cell? ⟨w.heap.size, 0, none⟩ = some (.int .i64 r.kind) := rb2.at_.c0
  have mc1 : w2.cell? ⟨w.heap.size, 1, none⟩ = some (.int .i64 r.tx) := rb2.at_.c1
  have mc2 : w2.cell? ⟨w.heap.size, 2, none⟩ = some (.int .u16 r.mask) := rb2.at_.c2
  have mc3 : w2.cell? ⟨w.heap.size, 3, none⟩ = some (.int .u8 r.k0) := rb2.at_.c3
  have mc4 : w2.cell? ⟨w.heap.size, 4, none⟩ = some (.int .u8 r.k1) := rb2.at_.c4
  have mc5 : w2.cell? ⟨w.heap.size, 5, none⟩ = some (.int .u8 r.k2) := rb2.at_.c5
  have mc6 : w2.cell? ⟨w.heap.size, 6, none⟩ = some (.int .u8 r.k3) := rb2.at_.c6
  have mc7 : w2.cell? ⟨w.heap.size, 7, none⟩ = some (.bool r.oT) := rb2.at_.c7
  have mc8 : w2.cell? ⟨w.heap.size, 8, none⟩ = some (.int .i64 r.oN) := rb2.at_.c8
  have mc9 : w2.cell? ⟨w.heap.size, 9, none⟩ = some (.bool r.nT) := rb2.at_.c9
  have mc10 : w2.cell? ⟨w.heap.size, 10, none⟩ = some (.int .i64 r.nN) := rb2.at_.c10
  go_wp2_with fail
  (with_reducible refine (c2 _).mono ?_)
  rintro e w3 ⟨rfl, k3⟩
  go_wp2
  go_ret
  refine ⟨rfl, below_more ?_ k3 (Nat.le_refl _)⟩
  repeat first | with_reducible exact kw2 | with_reducible refine below_sc ?_ hs2 _ | with_reducible refine Below.alloc ?_ hs2 _
set_option maxRecDepth 100000 in
set_option maxHeartbeats 1000000 in
theorem rp_7_1 (r : RecD) (ok : okR r) (hr : rightB r = true) (h1 : (r.kind == 1) = false) (h2 : (r.kind == 2) = false) (h7 : (r.kind == 7) = true) (h8 : (r.kind == 8) = false) (what : Int) (e0 : (what == 0) = false) (e1 : (what == 1) = true) (w : World) : Calls Try.prog 7 #[.agg #[.int .i64 r.kind, .int .i64 r.tx, .int .u16 r.mask, .int .u8 r.k0, .int .u8 r.k1, .int .u8 r.k2, .int .u8 r.k3, .bool r.oT, .int .i64 r.oN, .bool r.nT, .int .i64 r.nN], .int .i64 what] w fun e w' => e = .returned (.bool true) ∧ Below w.heap.size w w' := by
  have c0 : ∀ W, Calls Try.prog 8 #[] W fun e w' => e = .returned (.bool true) ∧ Below W.heap.size W w' := fun W => alive_any W
  have c1 : ∀ W, Calls Try.prog 18 #[.agg #[.int .i64 r.kind, .int .i64 r.tx, .int .u16 r.mask, .int .u8 r.k0, .int .u8 r.k1, .int .u8 r.k2, .int .u8 r.k3, .bool r.oT, .int .i64 r.oN, .bool r.nT, .int .i64 r.nN]] W fun e w' => e = .returned (.bool true) ∧ Below W.heap.size W w' := fun W => right_any r true hr W
  have c2 : ∀ W, Calls Try.prog 18 #[.agg #[.int .i64 r.kind, .int .i64 r.tx, .int .u16 1, .int .u8 r.k0, .int .u8 r.k1, .int .u8 r.k2, .int .u8 r.k3, .bool r.oT, .int .i64 r.oN, .bool r.nT, .int .i64 r.nN]] W fun e w' => e = .returned (.bool false) ∧ Below W.heap.size W w' := fun W => right_any { r with mask := 1 } false ((plain_1 r ok hr (by simp [h2, h8])).2) W
  have hm0 : r.mask = 0 := (plain_1 r ok hr (by simp [h2, h8])).1
  have hx1 : bits .xor .u16 (r.mask : Int) 1 = 1 := by rw [hm0]; decide
  clear hm0
  have HB := Lib.hid (recBox_new w r)
  clear hr ok
  go_enter Try.func7, Try.ntmps7
  go_wp2_with fail
  (with_reducible refine (c0 _).mono ?_)
  rintro e w1 ⟨rfl, k1⟩
  have rb1 : RecBox w1 w.heap.size r := HB.out.below k1 (by simp)
  have kw1 : Below w.heap.size w w1 := ((Below.refl _ w).alloc (Nat.le_refl _) _).trans (k1.mono (by simp))
  clear HB k1 c0
  have mc0 : w1.cell? ⟨w.heap.size, 0, none⟩ = some (.int .i64 r.kind) := rb1.at_.c0
  have mc1 : w1.cell? ⟨w.heap.size, 1, none⟩ = some (.int .i64 r.tx) := rb1.at_.c1
  have mc2 : w1.cell? ⟨w.heap.size, 2, none⟩ = some (.int .u16 r.mask) := rb1.at_.c2
  have mc3 : w1.cell? ⟨w.heap.size, 3, none⟩ = some (.int .u8 r.k0) := rb1.at_.c3
  have mc4 : w1.cell? ⟨w.heap.size, 4, none⟩ = some (.int .u8 r.k1) := rb1.at_.c4
  have mc5 : w1.cell? ⟨w.heap.size, 5, none⟩ = some (.int .u8 r.k2) := rb1.at_.c5
  have mc6 : w1.cell? ⟨w.heap.size, 6, none⟩ = some (.int .u8 r.k3) := rb1.at_.c6
  have mc7 : w1.cell? ⟨w.heap.size, 7, none⟩ = some (.bool r.oT) := rb1.at_.c7
  have mc8 : w1.cell? ⟨w.heap.size, 8, none⟩ = some (.int .i64 r.oN) := rb1.at_.c8
  have mc9 : w1.cell? ⟨w.heap.size, 9, none⟩ = some (.bool r.nT) := rb1.at_.c9
  have mc10 : w1.cell? ⟨w.heap.size, 10, none⟩ = some (.int .i64 r.nN) := rb1.at_.c10
  go_wp2_with fail
  (with_reducible refine (c1 _).mono ?_)
  rintro e w2 ⟨rfl, k2⟩
  have rb2 := rb1.below k2 rb1.at_.lt
  have kw2 := below_more kw1 k2 (Nat.le_refl _)
  have hs2 := kw2.size
  clear rb1 k2 c1 kw1 mc0 mc1 mc2 mc3 mc4 mc5 mc6 mc7 mc8 mc9 mc10
  have mc0 : w2.cell? ⟨w.heap.size, 0, none⟩ = some (.int .i64 r.kind) := rb2.at_.c0
  have mc1 : w2.cell? ⟨w.heap.size, 1, none⟩ = some (.int .i64 r.tx) := rb2.at_.c1
  have mc2 : w2.cell? ⟨w.heap.size, 2, none⟩ = some (.int .u16 r.mask) := rb2.at_.c2
  have mc3 : w2.cell? ⟨w.heap.size, 3, none⟩ = some (.int .u8 r.k0) := rb2.at_.c3
  have mc4 : w2.cell? ⟨w.heap.size, 4, none⟩ = some (.int .u8 r.k1) := rb2.at_.c4
  have mc5 : w2.cell? ⟨w.heap.size, 5, none⟩ = some (.int .u8 r.k2) := rb2.at_.c5
  have mc6 : w2.cell? ⟨w.heap.size, 6, none⟩ = some (.int .u8 r.k3) := rb2.at_.c6
  have mc7 : w2.cell? ⟨w.heap.size, 7, none⟩ = some (.bool r.oT) := rb2.at_.c7
  have mc8 : w2.cell? ⟨w.heap.size, 8, none⟩ = some (.int .i64 r.oN) := rb2.at_.c8
  have mc9 : w2.cell? ⟨w.heap.size, 9, none⟩ = some (.bool r.nT) := rb2.at_.c9
  have mc10 : w2.cell? ⟨w.heap.size, 10, none⟩ = some (.int .i64 r.nN) := rb2.at_.c10
  go_wp2_with fail
  (with_reducible refine (c2 _).mono ?_)
  rintro e w3 ⟨rfl, k3⟩
  go_wp2
  go_ret
  refine ⟨rfl, below_more ?_ k3 (Nat.le_refl _)⟩
  repeat first | with_reducible exact kw2 | with_reducible refine below_sc ?_ hs2 _ | with_reducible refine Below.alloc ?_ hs2 _
set_option maxRecDepth 100000 in
set_option maxHeartbeats 1000000 in
theorem rp_7_2 (r : RecD) (ok : okR r) (hr : rightB r = true) (h1 : (r.kind == 1) = false) (h2 : (r.kind == 2) = false) (h7 : (r.kind == 7) = true) (h8 : (r.kind == 8) = false) (what : Int) (e0 : (what == 0) = false) (e1 : (what == 1) = false) (e2 : (what == 2) = true) (w : World) : Calls Try.prog 7 #[.agg #[.int .i64 r.kind, .int .i64 r.tx, .int .u16 r.mask, .int .u8 r.k0, .int .u8 r.k1, .int .u8 r.k2, .int .u8 r.k3, .bool r.oT, .int .i64 r.oN, .bool r.nT, .int .i64 r.nN], .int .i64 what] w fun e w' => e = .returned (.bool true) ∧ Below w.heap.size w w' := by
  have c0 : ∀ W, Calls Try.prog 8 #[] W fun e w' => e = .returned (.bool true) ∧ Below W.heap.size W w' := fun W => alive_any W
  have c1 : ∀ W, Calls Try.prog 18 #[.agg #[.int .i64 r.kind, .int .i64 r.tx, .int .u16 r.mask, .int .u8 r.k0, .int .u8 r.k1, .int .u8 r.k2, .int .u8 r.k3, .bool r.oT, .int .i64 r.oN, .bool r.nT, .int .i64 r.nN]] W fun e w' => e = .returned (.bool true) ∧ Below W.heap.size W w' := fun W => right_any r true hr W
  have c2 : ∀ W, Calls Try.prog 18 #[.agg #[.int .i64 r.kind, .int .i64 r.tx, .int .u16 r.mask, .int .u8 r.k0, .int .u8 r.k1, .int .u8 r.k2, .int .u8 r.k3, .bool true, .int .i64 0, .bool r.nT, .int .i64 r.nN]] W fun e w' => e = .returned (.bool false) ∧ Below W.heap.size W w' := fun W => right_any { r with oT := true, oN := 0 } false ((plain_2 r ok hr).trans (by simp [h1])) W
  have HB := Lib.hid (recBox_new w r)
  clear hr ok
  go_enter Try.func7, Try.ntmps7
  go_wp2_with fail
  (with_reducible refine (c0 _).mono ?_)
  rintro e w1 ⟨rfl, k1⟩
  have rb1 : RecBox w1 w.heap.size r := HB.out.below k1 (by simp)
  have kw1 : Below w.heap.size w w1 := ((Below.refl _ w).alloc (Nat.le_refl _) _).trans (k1.mono (by simp))
  clear HB k1 c0
  have mc0 : w1.cell? ⟨w.heap.size, 0, none⟩ = some (.int .i64 r.kind) := rb1.at_.c0
  have mc1 : w1.cell? ⟨w.heap.size, 1, none⟩ = some (.int .i64 r.tx) := rb1.at_.c1
  have mc2 : w1.cell? ⟨w.heap.size, 2, none⟩ = some (.int .u16 r.mask) := rb1.at_.c2
  have mc3 : w1.cell? ⟨w.heap.size, 3, none⟩ = some (.int .u8 r.k0) := rb1.at_.c3
  have mc4 : w1.cell? ⟨w.heap.size, 4, none⟩ = some (.int .u8 r.k1) := rb1.at_.c4
  have mc5 : w1.cell? ⟨w.heap.size, 5, none⟩ = some (.int .u8 r.k2) := rb1.at_.c5
  have mc6 : w1.cell? ⟨w.heap.size, 6, none⟩ = some (.int .u8 r.k3) := rb1.at_.c6
  have mc7 : w1.cell? ⟨w.heap.size, 7, none⟩ = some (.bool r.oT) := rb1.at_.c7
  have mc8 : w1.cell? ⟨w.heap.size, 8, none⟩ = some (.int .i64 r.oN) := rb1.at_.c8
  have mc9 : w1.cell? ⟨w.heap.size, 9, none⟩ = some (.bool r.nT) := rb1.at_.c9
  have mc10 : w1.cell? ⟨w.heap.size, 10, none⟩ = some (.int .i64 r.nN) := rb1.at_.c10
  go_wp2_with fail
  (with_reducible refine (c1 _).mono ?_)
  rintro e w2 ⟨rfl, k2⟩
  have rb2 := rb1.below k2 rb1.at_.lt
  have kw2 := below_more kw1 k2 (Nat.le_refl _)
  have hs2 := kw2.size
  clear rb1 k2 c1 kw1 mc0 mc1 mc2 mc3 mc4 mc5 mc6 mc7 mc8 mc9 mc10
  have mc0 : w2.cell? ⟨w.heap.size, 0, none⟩ = some (.int .i64 r.kind) := rb2.at_.c0
  have mc1 : w2.cell? ⟨w.heap.size, 1, none⟩ = some (.int .i64 r.tx) := rb2.at_.c1
  have mc2 : w2.cell? ⟨w.heap.size, 2, none⟩ = some (.int .u16 r.mask) := rb2.at_.c2
  have mc3 : w2.cell? ⟨w.heap.size, 3, none⟩ = some (.int .u8 r.k0) := rb2.at_.c3
  have mc4 : w2.cell? ⟨w.heap.size, 4, none⟩ = some (.int .u8 r.k1) := rb2.at_.c4
  have mc5 : w2.cell? ⟨w.heap.size, 5, none⟩ = some (.int .u8 r.k2) := rb2.at_.c5
  have mc6 : w2.cell? ⟨w.heap.size, 6, none⟩ = some (.int .u8 r.k3) := rb2.at_.c6
  have mc7 : w2.cell? ⟨w.heap.size, 7, none⟩ = some (.bool r.oT) := rb2.at_.c7
  have mc8 : w2.cell? ⟨w.heap.size, 8, none⟩ = some (.int .i64 r.oN) := rb2.at_.c8
  have mc9 : w2.cell? ⟨w.heap.size, 9, none⟩ = some (.bool r.nT) := rb2.at_.c9
  have mc10 : w2.cell? ⟨w.heap.size, 10, none⟩ = some (.int .i64 r.nN) := rb2.at_.c10
  go_wp2_with fail
  have rx : RecBox (w2.alloc (.cells #[.int .i64 r.kind, .int .i64 r.tx, .int .u16 r.mask, .int .u8 r.k0, .int .u8 r.k1, .int .u8 r.k2, .int .u8 r.k3, .bool true, .int .i64 0, .bool r.nT, .int .i64 r.nN] 32)) w2.heap.size { r with oT := true, oN := 0 } := recBox_new w2 { r with oT := true, oN := 0 }
  have rk := rb2.below ((Below.refl w2.heap.size w2).alloc (Nat.le_refl _) (.cells #[.int .i64 r.kind, .int .i64 r.tx, .int .u16 r.mask, .int .u8 r.k0, .int .u8 r.k1, .int .u8 r.k2, .int .u8 r.k3, .bool true, .int .i64 0, .bool r.nT, .int .i64 r.nN] 32)) rb2.at_.lt
  have kw3 : Below w.heap.size w (w2.alloc (.cells #[.int .i64 r.kind, .int .i64 r.tx, .int .u16 r.mask, .int .u8 r.k0, .int .u8 r.k1, .int .u8 r.k2, .int .u8 r.k3, .bool true, .int .i64 0, .bool r.nT, .int .i64 r.nN] 32)) := kw2.alloc hs2 _
  clear kw2 hs2 rb2 mc0 mc1 mc2 mc3 mc4 mc5 mc6 mc7 mc8 mc9 mc10
  generalize (w2.alloc (.cells #[.int .i64 r.kind, .int .i64 r.tx, .int .u16 r.mask, .int .u8 r.k0, .int .u8 r.k1, .int .u8 r.k2, .int .u8 r.k3, .bool true, .int .i64 0, .bool r.nT, .int .i64 r.nN] 32)) = w3 at *
  generalize w2.heap.size = m at *
  have kS : ∀ W, Below w3.heap.size w3 W → (W.cell? ⟨m, 0, none⟩ = some (.int .i64 r.kind) ∧ W.cell? ⟨m, 1, none⟩ = some (.int .i64 r.tx) ∧ W.cell? ⟨m, 2, none⟩ = some (.int .u16 r.mask) ∧ W.cell? ⟨m, 3, none⟩ = some (.int .u8 r.k0) ∧ W.cell? ⟨m, 4, none⟩ = some (.int .u8 r.k1) ∧ W.cell? ⟨m, 5, none⟩ = some (.int .u8 r.k2) ∧ W.cell? ⟨m, 6, none⟩ = some (.int .u8 r.k3) ∧ W.cell? ⟨m, 7, none⟩ = some (.bool true) ∧ W.cell? ⟨m, 8, none⟩ = some (.int .i64 0) ∧ W.cell? ⟨m, 9, none⟩ = some (.bool r.nT) ∧ W.cell? ⟨m, 10, none⟩ = some (.int .i64 r.nN) ∧ W.cell? ⟨w.heap.size, 0, none⟩ = some (.int .i64 r.kind) ∧ Below w3.heap.size w3 W) := fun W hb => by
    have r' := rx.below hb rx.at_.lt
    have q' := rk.below hb rk.at_.lt
    exact ⟨r'.at_.c0, r'.at_.c1, r'.at_.c2, r'.at_.c3, r'.at_.c4, r'.at_.c5, r'.at_.c6, r'.at_.c7, r'.at_.c8, r'.at_.c9, r'.at_.c10, q'.at_.c0, hb⟩
  have kd : Below w3.heap.size w3 w3.drew := (Below.refl _ _).drew
  have KS := Lib.hid kS
  clear kS rx rk
  go_region_held3 (fun w' => (w'.cell? ⟨m, 0, none⟩ = some (.int .i64 r.kind) ∧ w'.cell? ⟨m, 1, none⟩ = some (.int .i64 r.tx) ∧ w'.cell? ⟨m, 2, none⟩ = some (.int .u16 r.mask) ∧ w'.cell? ⟨m, 3, none⟩ = some (.int .u8 r.k0) ∧ w'.cell? ⟨m, 4, none⟩ = some (.int .u8 r.k1) ∧ w'.cell? ⟨m, 5, none⟩ = some (.int .u8 r.k2) ∧ w'.cell? ⟨m, 6, none⟩ = some (.int .u8 r.k3) ∧ w'.cell? ⟨m, 7, none⟩ = some (.bool true) ∧ w'.cell? ⟨m, 8, none⟩ = some (.int .i64 0) ∧ w'.cell? ⟨m, 9, none⟩ = some (.bool r.nT) ∧ w'.cell? ⟨m, 10, none⟩ = some (.int .i64 r.nN) ∧ w'.cell? ⟨w.heap.size, 0, none⟩ = some (.int .i64 r.kind) ∧ Below w3.heap.size w3 w')) (first | assumption | exact KS.out _ kd | exact KS.out _ z4) ((go_at_call 18; (with_reducible refine (c2 _).mono ?_); rintro e w4 ⟨rfl, k4⟩; have z4 : Below w3.heap.size w3 w4 := kd.trans k4))
  go_wp2
  go_ret
  exact ⟨rfl, below_more kw3 z4 (Nat.le_refl _)⟩
set_option maxRecDepth 100000 in
set_option maxHeartbeats 1000000 in
theorem rp_7_3 (r : RecD) (ok : okR r) (hr : rightB r = true) (h1 : (r.kind == 1) = false) (h2 : (r.kind == 2) = false) (h7 : (r.kind == 7) = true) (h8 : (r.kind == 8) = false) (what : Int) (e0 : (what == 0) = false) (e1 : (what == 1) = false) (e2 : (what == 2) = false) (e3 : (what == 3) = true) (w : World) : Calls Try.prog 7 #[.agg #[.int .i64 r.kind, .int .i64 r.tx, .int .u16 r.mask, .int .u8 r.k0, .int .u8 r.k1, .int .u8 r.k2, .int .u8 r.k3, .bool r.oT, .int .i64 r.oN, .bool r.nT, .int .i64 r.nN], .int .i64 what] w fun e w' => e = .returned (.bool true) ∧ Below w.heap.size w w' := by
  have c0 : ∀ W, Calls Try.prog 8 #[] W fun e w' => e = .returned (.bool true) ∧ Below W.heap.size W w' := fun W => alive_any W
  have c1 : ∀ W, Calls Try.prog 18 #[.agg #[.int .i64 r.kind, .int .i64 r.tx, .int .u16 r.mask, .int .u8 r.k0, .int .u8 r.k1, .int .u8 r.k2, .int .u8 r.k3, .bool r.oT, .int .i64 r.oN, .bool r.nT, .int .i64 r.nN]] W fun e w' => e = .returned (.bool true) ∧ Below W.heap.size W w' := fun W => right_any r true hr W
  have c2 : ∀ W, Calls Try.prog 18 #[.agg #[.int .i64 r.kind, .int .i64 r.tx, .int .u16 r.mask, .int .u8 r.k0, .int .u8 r.k1, .int .u8 r.k2, .int .u8 r.k3, .bool r.oT, .int .i64 r.oN, .bool false, .int .i64 1]] W fun e w' => e = .returned (.bool false) ∧ Below W.heap.size W w' := fun W => right_any { r with nT := false, nN := 1 } false (plain_3 r ok hr) W
  have HB := Lib.hid (recBox_new w r)
  clear hr ok
  go_enter Try.func7, Try.ntmps7
  go_wp2_with fail
  (with_reducible refine (c0 _).mono ?_)
  rintro e w1 ⟨rfl, k1⟩
  have rb1 : RecBox w1 w.heap.size r := HB.out.below k1 (by simp)
  have kw1 : Below w.heap.size w w1 := ((Below.refl _ w).alloc (Nat.le_refl _) _).trans (k1.mono (by simp))
  clear HB k1 c0
  have mc0 : w1.cell? ⟨w.heap.size, 0, none⟩ = some (.int .i64 r.kind) := rb1.at_.c0
  have mc1 : w1.cell? ⟨w.heap.size, 1, none⟩ = some (.int .i64 r.tx) := rb1.at_.c1
  have mc2 : w1.cell? ⟨w.heap.size, 2, none⟩ = some (.int .u16 r.mask) := rb1.at_.c2
  have mc3 : w1.cell? ⟨w.heap.size, 3, none⟩ = some (.int .u8 r.k0) := rb1.at_.c3
  have mc4 : w1.cell? ⟨w.heap.size, 4, none⟩ = some (.int .u8 r.k1) := rb1.at_.c4
  have mc5 : w1.cell? ⟨w.heap.size, 5, none⟩ = some (.int .u8 r.k2) := rb1.at_.c5
  have mc6 : w1.cell? ⟨w.heap.size, 6, none⟩ = some (.int .u8 r.k3) := rb1.at_.c6
  have mc7 : w1.cell? ⟨w.heap.size, 7, none⟩ = some (.bool r.oT) := rb1.at_.c7
  have mc8 : w1.cell? ⟨w.heap.size, 8, none⟩ = some (.int .i64 r.oN) := rb1.at_.c8
  have mc9 : w1.cell? ⟨w.heap.size, 9, none⟩ = some (.bool r.nT) := rb1.at_.c9
  have mc10 : w1.cell? ⟨w.heap.size, 10, none⟩ = some (.int .i64 r.nN) := rb1.at_.c10
  go_wp2_with fail
  (with_reducible refine (c1 _).mono ?_)
  rintro e w2 ⟨rfl, k2⟩
  have rb2 := rb1.below k2 rb1.at_.lt
  have kw2 := below_more kw1 k2 (Nat.le_refl _)
  have hs2 := kw2.size
  clear rb1 k2 c1 kw1 mc0 mc1 mc2 mc3 mc4 mc5 mc6 mc7 mc8 mc9 mc10
  have mc0 : w2.cell? ⟨w.heap.size, 0, none⟩ = some (.int .i64 r.kind) := rb2.at_.c0
  have mc1 : w2.cell? ⟨w.heap.size, 1, none⟩ = some (.int .i64 r.tx) := rb2.at_.c1
  have mc2 : w2.cell? ⟨w.heap.size, 2, none⟩ = some (.int .u16 r.mask) := rb2.at_.c2
  have mc3 : w2.cell? ⟨w.heap.size, 3, none⟩ = some (.int .u8 r.k0) := rb2.at_.c3
  have mc4 : w2.cell? ⟨w.heap.size, 4, none⟩ = some (.int .u8 r.k1) := rb2.at_.c4
  have mc5 : w2.cell? ⟨w.heap.size, 5, none⟩ = some (.int .u8 r.k2) := rb2.at_.c5
  have mc6 : w2.cell? ⟨w.heap.size, 6, none⟩ = some (.int .u8 r.k3) := rb2.at_.c6
  have mc7 : w2.cell? ⟨w.heap.size, 7, none⟩ = some (.bool r.oT) := rb2.at_.c7
  have mc8 : w2.cell? ⟨w.heap.size, 8, none⟩ = some (.int .i64 r.oN) := rb2.at_.c8
  have mc9 : w2.cell? ⟨w.heap.size, 9, none⟩ = some (.bool r.nT) := rb2.at_.c9
  have mc10 : w2.cell? ⟨w.heap.size, 10, none⟩ = some (.int .i64 r.nN) := rb2.at_.c10
  go_wp2_with fail
  (with_reducible refine (c2 _).mono ?_)
  rintro e w3 ⟨rfl, k3⟩
  go_wp2
  go_ret
  refine ⟨rfl, below_more ?_ k3 (Nat.le_refl _)⟩
  repeat first | with_reducible exact kw2 | with_reducible refine below_sc ?_ hs2 _ | with_reducible refine Below.alloc ?_ hs2 _
set_option maxRecDepth 100000 in
set_option maxHeartbeats 1000000 in
theorem rp_7_4 (r : RecD) (ok : okR r) (hr : rightB r = true) (h1 : (r.kind == 1) = false) (h2 : (r.kind == 2) = false) (h7 : (r.kind == 7) = true) (h8 : (r.kind == 8) = false) (what : Int) (e0 : (what == 0) = false) (e1 : (what == 1) = false) (e2 : (what == 2) = false) (e3 : (what == 3) = false) (w : World) : Calls Try.prog 7 #[.agg #[.int .i64 r.kind, .int .i64 r.tx, .int .u16 r.mask, .int .u8 r.k0, .int .u8 r.k1, .int .u8 r.k2, .int .u8 r.k3, .bool r.oT, .int .i64 r.oN, .bool r.nT, .int .i64 r.nN], .int .i64 what] w fun e w' => e = .returned (.bool true) ∧ Below w.heap.size w w' := by
  have c0 : ∀ W, Calls Try.prog 8 #[] W fun e w' => e = .returned (.bool true) ∧ Below W.heap.size W w' := fun W => alive_any W
  have c1 : ∀ W, Calls Try.prog 18 #[.agg #[.int .i64 r.kind, .int .i64 r.tx, .int .u16 r.mask, .int .u8 r.k0, .int .u8 r.k1, .int .u8 r.k2, .int .u8 r.k3, .bool r.oT, .int .i64 r.oN, .bool r.nT, .int .i64 r.nN]] W fun e w' => e = .returned (.bool true) ∧ Below W.heap.size W w' := fun W => right_any r true hr W
  have c2 : ∀ W, Calls Try.prog 18 #[.agg #[.int .i64 r.kind, .int .i64 0, .int .u16 r.mask, .int .u8 r.k0, .int .u8 r.k1, .int .u8 r.k2, .int .u8 r.k3, .bool r.oT, .int .i64 r.oN, .bool r.nT, .int .i64 r.nN]] W fun e w' => e = .returned (.bool true) ∧ Below W.heap.size W w' := fun W => right_any { r with tx := 0 } true ((plain_4 r ok hr).trans (by simp [h7, h8])) W
  have HB := Lib.hid (recBox_new w r)
  clear hr ok
  go_enter Try.func7, Try.ntmps7
  go_wp2_with fail
  (with_reducible refine (c0 _).mono ?_)
  rintro e w1 ⟨rfl, k1⟩
  have rb1 : RecBox w1 w.heap.size r := HB.out.below k1 (by simp)
  have kw1 : Below w.heap.size w w1 := ((Below.refl _ w).alloc (Nat.le_refl _) _).trans (k1.mono (by simp))
  clear HB k1 c0
  have mc0 : w1.cell? ⟨w.heap.size, 0, none⟩ = some (.int .i64 r.kind) := rb1.at_.c0
  have mc1 : w1.cell? ⟨w.heap.size, 1, none⟩ = some (.int .i64 r.tx) := rb1.at_.c1
  have mc2 : w1.cell? ⟨w.heap.size, 2, none⟩ = some (.int .u16 r.mask) := rb1.at_.c2
  have mc3 : w1.cell? ⟨w.heap.size, 3, none⟩ = some (.int .u8 r.k0) := rb1.at_.c3
  have mc4 : w1.cell? ⟨w.heap.size, 4, none⟩ = some (.int .u8 r.k1) := rb1.at_.c4
  have mc5 : w1.cell? ⟨w.heap.size, 5, none⟩ = some (.int .u8 r.k2) := rb1.at_.c5
  have mc6 : w1.cell? ⟨w.heap.size, 6, none⟩ = some (.int .u8 r.k3) := rb1.at_.c6
  have mc7 : w1.cell? ⟨w.heap.size, 7, none⟩ = some (.bool r.oT) := rb1.at_.c7
  have mc8 : w1.cell? ⟨w.heap.size, 8, none⟩ = some (.int .i64 r.oN) := rb1.at_.c8
  have mc9 : w1.cell? ⟨w.heap.size, 9, none⟩ = some (.bool r.nT) := rb1.at_.c9
  have mc10 : w1.cell? ⟨w.heap.size, 10, none⟩ = some (.int .i64 r.nN) := rb1.at_.c10
  go_wp2_with fail
  (with_reducible refine (c1 _).mono ?_)
  rintro e w2 ⟨rfl, k2⟩
  have rb2 := rb1.below k2 rb1.at_.lt
  have kw2 := below_more kw1 k2 (Nat.le_refl _)
  have hs2 := kw2.size
  clear rb1 k2 c1 kw1 mc0 mc1 mc2 mc3 mc4 mc5 mc6 mc7 mc8 mc9 mc10
  have mc0 : w2.cell? ⟨w.heap.size, 0, none⟩ = some (.int .i64 r.kind) := rb2.at_.c0
  have mc1 : w2.cell? ⟨w.heap.size, 1, none⟩ = some (.int .i64 r.tx) := rb2.at_.c1
  have mc2 : w2.cell? ⟨w.heap.size, 2, none⟩ = some (.int .u16 r.mask) := rb2.at_.c2
  have mc3 : w2.cell? ⟨w.heap.size, 3, none⟩ = some (.int .u8 r.k0) := rb2.at_.c3
  have mc4 : w2.cell? ⟨w.heap.size, 4, none⟩ = some (.int .u8 r.k1) := rb2.at_.c4
  have mc5 : w2.cell? ⟨w.heap.size, 5, none⟩ = some (.int .u8 r.k2) := rb2.at_.c5
  have mc6 : w2.cell? ⟨w.heap.size, 6, none⟩ = some (.int .u8 r.k3) := rb2.at_.c6
  have mc7 : w2.cell? ⟨w.heap.size, 7, none⟩ = some (.bool r.oT) := rb2.at_.c7
  have mc8 : w2.cell? ⟨w.heap.size, 8, none⟩ = some (.int .i64 r.oN) := rb2.at_.c8
  have mc9 : w2.cell? ⟨w.heap.size, 9, none⟩ = some (.bool r.nT) := rb2.at_.c9
  have mc10 : w2.cell? ⟨w.heap.size, 10, none⟩ = some (.int .i64 r.nN) := rb2.at_.c10
  go_wp2_with fail
  have rx : RecBox (w2.alloc (.cells #[.int .i64 r.kind, .int .i64 0, .int .u16 r.mask, .int .u8 r.k0, .int .u8 r.k1, .int .u8 r.k2, .int .u8 r.k3, .bool r.oT, .int .i64 r.oN, .bool r.nT, .int .i64 r.nN] 32)) w2.heap.size { r with tx := 0 } := recBox_new w2 { r with tx := 0 }
  have rk := rb2.below ((Below.refl w2.heap.size w2).alloc (Nat.le_refl _) (.cells #[.int .i64 r.kind, .int .i64 0, .int .u16 r.mask, .int .u8 r.k0, .int .u8 r.k1, .int .u8 r.k2, .int .u8 r.k3, .bool r.oT, .int .i64 r.oN, .bool r.nT, .int .i64 r.nN] 32)) rb2.at_.lt
  have kw3 : Below w.heap.size w (w2.alloc (.cells #[.int .i64 r.kind, .int .i64 0, .int .u16 r.mask, .int .u8 r.k0, .int .u8 r.k1, .int .u8 r.k2, .int .u8 r.k3, .bool r.oT, .int .i64 r.oN, .bool r.nT, .int .i64 r.nN] 32)) := kw2.alloc hs2 _
  clear kw2 hs2 rb2 mc0 mc1 mc2 mc3 mc4 mc5 mc6 mc7 mc8 mc9 mc10
  generalize (w2.alloc (.cells #[.int .i64 r.kind, .int .i64 0, .int .u16 r.mask, .int .u8 r.k0, .int .u8 r.k1, .int .u8 r.k2, .int .u8 r.k3, .bool r.oT, .int .i64 r.oN, .bool r.nT, .int .i64 r.nN] 32)) = w3 at *
  generalize w2.heap.size = m at *
  have kS : ∀ W, Below w3.heap.size w3 W → (W.cell? ⟨m, 0, none⟩ = some (.int .i64 r.kind) ∧ W.cell? ⟨m, 1, none⟩ = some (.int .i64 0) ∧ W.cell? ⟨m, 2, none⟩ = some (.int .u16 r.mask) ∧ W.cell? ⟨m, 3, none⟩ = some (.int .u8 r.k0) ∧ W.cell? ⟨m, 4, none⟩ = some (.int .u8 r.k1) ∧ W.cell? ⟨m, 5, none⟩ = some (.int .u8 r.k2) ∧ W.cell? ⟨m, 6, none⟩ = some (.int .u8 r.k3) ∧ W.cell? ⟨m, 7, none⟩ = some (.bool r.oT) ∧ W.cell? ⟨m, 8, none⟩ = some (.int .i64 r.oN) ∧ W.cell? ⟨m, 9, none⟩ = some (.bool r.nT) ∧ W.cell? ⟨m, 10, none⟩ = some (.int .i64 r.nN) ∧ W.cell? ⟨w.heap.size, 0, none⟩ = some (.int .i64 r.kind) ∧ Below w3.heap.size w3 W) := fun W hb => by
    have r' := rx.below hb rx.at_.lt
    have q' := rk.below hb rk.at_.lt
    exact ⟨r'.at_.c0, r'.at_.c1, r'.at_.c2, r'.at_.c3, r'.at_.c4, r'.at_.c5, r'.at_.c6, r'.at_.c7, r'.at_.c8, r'.at_.c9, r'.at_.c10, q'.at_.c0, hb⟩
  have kd : Below w3.heap.size w3 w3.drew := (Below.refl _ _).drew
  have KS := Lib.hid kS
  clear kS rx rk
  refine wp_region_noPanic ?_
  refine wp_region_held_drew (S := fun w' => (w'.cell? ⟨m, 0, none⟩ = some (.int .i64 r.kind) ∧ w'.cell? ⟨m, 1, none⟩ = some (.int .i64 0) ∧ w'.cell? ⟨m, 2, none⟩ = some (.int .u16 r.mask) ∧ w'.cell? ⟨m, 3, none⟩ = some (.int .u8 r.k0) ∧ w'.cell? ⟨m, 4, none⟩ = some (.int .u8 r.k1) ∧ w'.cell? ⟨m, 5, none⟩ = some (.int .u8 r.k2) ∧ w'.cell? ⟨m, 6, none⟩ = some (.int .u8 r.k3) ∧ w'.cell? ⟨m, 7, none⟩ = some (.bool r.oT) ∧ w'.cell? ⟨m, 8, none⟩ = some (.int .i64 r.oN) ∧ w'.cell? ⟨m, 9, none⟩ = some (.bool r.nT) ∧ w'.cell? ⟨m, 10, none⟩ = some (.int .i64 r.nN) ∧ w'.cell? ⟨w.heap.size, 0, none⟩ = some (.int .i64 r.kind) ∧ Below w3.heap.size w3 w')) (by kernel_rfl) (KS.out _ kd) (fun hHeld => ?_)
  refine wpAnyH_take (i := 0) (oi := ⟨some 73, _, _, _, _, _⟩) (v := ?v0) rfl (by kernel_rfl) (by kernel_rfl) (by kernel_rfl) (fun _ _ _ h => h) (Or.inl ⟨by rfl, ?y0⟩) (by assumption) ?r0
  case y0 =>
    intro w hSw
    try dsimp only at hSw
    go_simp
    try with_reducible rfl
  try simp only [Act.put, List.setIfInBounds_toArray, List.set_cons_zero, List.set_cons_succ]
  refine wpAnyH_take (i := 2) (oi := ⟨some 75, _, _, _, _, _⟩) (v := ?v2) rfl (by kernel_rfl) (by kernel_rfl) (by kernel_rfl) (fun _ _ _ h => h) (Or.inl ⟨by rfl, ?y2⟩) (by assumption) ?r2
  case y2 =>
    intro w hSw
    try dsimp only at hSw
    go_simp
    try with_reducible rfl
  try simp only [Act.put, List.setIfInBounds_toArray, List.set_cons_zero, List.set_cons_succ]
  refine wpAnyH_take (i := 3) (oi := ⟨some 76, _, _, _, _, _⟩) (v := ?v3) rfl (by kernel_rfl) (by kernel_rfl) (by kernel_rfl) (fun _ _ _ h => h) (Or.inl ⟨by rfl, ?y3⟩) (by assumption) ?r3
  case y3 =>
    intro w hSw
    try dsimp only at hSw
    go_simp
    try with_reducible rfl
  try simp only [Act.put, List.setIfInBounds_toArray, List.set_cons_zero, List.set_cons_succ]
  refine wpAnyH_take (i := 4) (oi := ⟨some 77, _, _, _, _, _⟩) (v := ?v4) rfl (by kernel_rfl) (by kernel_rfl) (by kernel_rfl) (fun _ _ _ h => h) (Or.inl ⟨by rfl, ?y4⟩) (by assumption) ?r4
  case y4 =>
    intro w hSw
    try dsimp only at hSw
    go_simp
    try with_reducible rfl
  try simp only [Act.put, List.setIfInBounds_toArray, List.set_cons_zero, List.set_cons_succ]
  refine wpAnyH_ready (rs := [1]) (by kernel_rfl) (by simp) ?_
  refine AllReadyH.cons (o := ⟨some 74, _, _, _, _, _⟩) rfl (fun K hK => ?_) AllReadyH.nil
  rw [if_pos (by rfl)]
  go_simp
  go_at_call 18
  (with_reducible refine (c2 _).mono ?_)
  rintro e w4 ⟨rfl, k4⟩
  have z4 : Below w3.heap.size w3 w4 := kd.trans k4
  refine hK.out _ _ (KS.out _ z4) (fun hHeld4 => ?_)
  clear hK K hHeld
  try simp only [Act.put, List.setIfInBounds_toArray, List.set_cons_zero, List.set_cons_succ]
  refine wpAnyH_take (i := 5) (oi := ⟨some 78, _, _, _, _, _⟩) (v := ?v5) rfl (by kernel_rfl) (by kernel_rfl) (by kernel_rfl) (fun _ _ _ h => h) (Or.inl ⟨by rfl, ?y5⟩) (by assumption) ?r5
  case y5 =>
    intro w hSw
    try dsimp only at hSw
    go_simp
    try with_reducible rfl
  try simp only [Act.put, List.setIfInBounds_toArray, List.set_cons_zero, List.set_cons_succ]
  refine wpAnyH_take (i := 6) (oi := ⟨some 79, _, _, _, _, _⟩) (v := undef) rfl (by kernel_rfl) (by kernel_rfl) (by kernel_rfl) (fun _ _ _ h => h) (Or.inr ⟨by rfl, rfl⟩) (by assumption) ?_
  try simp only [Act.put, List.setIfInBounds_toArray, List.set_cons_zero, List.set_cons_succ]
  refine wpAnyH_take (i := 7) (oi := ⟨some 80, _, _, _, _, _⟩) (v := undef) rfl (by kernel_rfl) (by kernel_rfl) (by kernel_rfl) (fun _ _ _ h => h) (Or.inr ⟨by rfl, rfl⟩) (by assumption) ?_
  try simp only [Act.put, List.setIfInBounds_toArray, List.set_cons_zero, List.set_cons_succ]
  refine wpAnyH_take (i := 8) (oi := ⟨some 81, _, _, _, _, _⟩) (v := undef) rfl (by kernel_rfl) (by kernel_rfl) (by kernel_rfl) (fun _ _ _ h => h) (Or.inr ⟨by rfl, rfl⟩) (by assumption) ?_
  try simp only [Act.put, List.setIfInBounds_toArray, List.set_cons_zero, List.set_cons_succ]
  refine wpAnyH_take (i := 9) (oi := ⟨some 82, _, _, _, _, _⟩) (v := ?v9) rfl (by kernel_rfl) (by kernel_rfl) (by kernel_rfl) (fun _ _ _ h => h) (Or.inl ⟨by rfl, ?y9⟩) (by assumption) ?r9
  case y9 =>
    intro w hSw
    try dsimp only at hSw
    go_simp
    try with_reducible rfl
  try simp only [Act.put, List.setIfInBounds_toArray, List.set_cons_zero, List.set_cons_succ]
  refine wpAnyH_take (i := 10) (oi := ⟨some 83, _, _, _, _, _⟩) (v := ?v10) rfl (by kernel_rfl) (by kernel_rfl) (by kernel_rfl) (fun _ _ _ h => h) (Or.inl ⟨by rfl, ?y10⟩) (by assumption) ?r10
  case y10 =>
    intro w hSw
    try dsimp only at hSw
    go_simp
    try with_reducible rfl
  try simp only [Act.put, List.setIfInBounds_toArray, List.set_cons_zero, List.set_cons_succ]
  refine wpAnyH_take (i := 11) (oi := ⟨some 4, _, _, _, _, _⟩) (v := ?v11) rfl (by kernel_rfl) (by kernel_rfl) (by kernel_rfl) (fun _ _ _ h => h) (Or.inl ⟨by rfl, ?y11⟩) (by assumption) ?r11
  case y11 =>
    intro w hSw
    try dsimp only at hSw
    go_simp
    try with_reducible rfl
  try simp only [Act.put, List.setIfInBounds_toArray, List.set_cons_zero, List.set_cons_succ]
  refine wpAnyH_done (by kernel_rfl) (NoPanic.normal ?_) _
  go_wp2
  go_ret
  exact ⟨rfl, below_more kw3 z4 (Nat.le_refl _)⟩
set_option maxRecDepth 100000 in
set_option maxHeartbeats 1000000 in
theorem rp_8_0 (r : RecD) (ok : okR r) (hr : rightB r = true) (h1 : (r.kind == 1) = false) (h2 : (r.kind == 2) = false) (h7 : (r.kind == 7) = false) (h8 : (r.kind == 8) = true) (what : Int) (e0 : (what == 0) = true) (w : World) : Calls Try.prog 7 #[.agg #[.int .i64 r.kind, .int .i64 r.tx, .int .u16 r.mask, .int .u8 r.k0, .int .u8 r.k1, .int .u8 r.k2, .int .u8 r.k3, .bool r.oT, .int .i64 r.oN, .bool r.nT, .int .i64 r.nN], .int .i64 what] w fun e w' => e = .returned (.bool true) ∧ Below w.heap.size w w' := by
  have c0 : ∀ W, Calls Try.prog 8 #[] W fun e w' => e = .returned (.bool true) ∧ Below W.heap.size W w' := fun W => alive_any W
  have c1 : ∀ W, Calls Try.prog 18 #[.agg #[.int .i64 r.kind, .int .i64 r.tx, .int .u16 r.mask, .int .u8 r.k0, .int .u8 r.k1, .int .u8 r.k2, .int .u8 r.k3, .bool r.oT, .int .i64 r.oN, .bool r.nT, .int .i64 r.nN]] W fun e w' => e = .returned (.bool true) ∧ Below W.heap.size W w' := fun W => right_any r true hr W
  have c2 : ∀ W, Calls Try.prog 18 #[.agg #[.int .i64 r.kind, .int .i64 r.tx, .int .u16 r.mask, .int .u8 r.k0, .int .u8 r.k1, .int .u8 r.k2, .int .u8 ((r.k3 + 1) % 256), .bool r.oT, .int .i64 r.oN, .bool r.nT, .int .i64 r.nN]] W fun e w' => e = .returned (.bool false) ∧ Below W.heap.size W w' := fun W => right_any { r with k3 := (r.k3 + 1) % 256 } false ((plain_0 r ok hr).trans (by simp [h1, h7])) W
  have hzw : IntKind.u8.wrap (r.k3 + 1) = (r.k3 + 1) % 256 := by rw [IntKind.wrap_u8]
  generalize (r.k3 + 1) % 256 = z at *
  have HB := Lib.hid (recBox_new w r)
  clear hr ok
  go_enter Try.func7, Try.ntmps7
  go_wp2_with fail
  (with_reducible refine (c0 _).mono ?_)
  rintro e w1 ⟨rfl, k1⟩
  have rb1 : RecBox w1 w.heap.size r := HB.out.below k1 (by simp)
  have kw1 : Below w.heap.size w w1 := ((Below.refl _ w).alloc (Nat.le_refl _) _).trans (k1.mono (by simp))
  clear HB k1 c0
  have mc0 : w1.cell? ⟨w.heap.size, 0, none⟩ = some (.int .i64 r.kind) := rb1.at_.c0
  have mc1 : w1.cell? ⟨w.heap.size, 1, none⟩ = some (.int .i64 r.tx) := rb1.at_.c1
  have mc2 : w1.cell? ⟨w.heap.size, 2, none⟩ = some (.int .u16 r.mask) := rb1.at_.c2
  have mc3 : w1.cell? ⟨w.heap.size, 3, none⟩ = some (.int .u8 r.k0) := rb1.at_.c3
  have mc4 : w1.cell? ⟨w.heap.size, 4, none⟩ = some (.int .u8 r.k1) := rb1.at_.c4
  have mc5 : w1.cell? ⟨w.heap.size, 5, none⟩ = some (.int .u8 r.k2) := rb1.at_.c5
  have mc6 : w1.cell? ⟨w.heap.size, 6, none⟩ = some (.int .u8 r.k3) := rb1.at_.c6
  have mc7 : w1.cell? ⟨w.heap.size, 7, none⟩ = some (.bool r.oT) := rb1.at_.c7
  have mc8 : w1.cell? ⟨w.heap.size, 8, none⟩ = some (.int .i64 r.oN) := rb1.at_.c8
  have mc9 : w1.cell? ⟨w.heap.size, 9, none⟩ = some (.bool r.nT) := rb1.at_.c9
  have mc10 : w1.cell? ⟨w.heap.size, 10, none⟩ = some (.int .i64 r.nN) := rb1.at_.c10
  go_wp2_with fail
  (with_reducible refine (c1 _).mono ?_)
  rintro e w2 ⟨rfl, k2⟩
  have rb2 := rb1.below k2 rb1.at_.lt
  have kw2 := below_more kw1 k2 (Nat.le_refl _)
  have hs2 := kw2.size
  clear rb1 k2 c1 kw1 mc0 mc1 mc2 mc3 mc4 mc5 mc6 mc7 mc8 mc9 mc10
  have mc0 : w2.cell? ⟨w.heap.size, 0, none⟩ = some (.int .i64 r.kind) := rb2.at_.c0
  have mc1 : w2.cell? ⟨w.heap.size, 1, none⟩ = some (.int .i64 r.tx) := rb2.at_.c1
  have mc2 : w2.cell? ⟨w.heap.size, 2, none⟩ = some (.int .u16 r.mask) := rb2.at_.c2
  have mc3 : w2.cell? ⟨w.heap.size, 3, none⟩ = some (.int .u8 r.k0) := rb2.at_.c3
  have mc4 : w2.cell? ⟨w.heap.size, 4, none⟩ = some (.int .u8 r.k1) := rb2.at_.c4
  have mc5 : w2.cell? ⟨w.heap.size, 5, none⟩ = some (.int .u8 r.k2) := rb2.at_.c5
  have mc6 : w2.cell? ⟨w.heap.size, 6, none⟩ = some (.int .u8 r.k3) := rb2.at_.c6
  have mc7 : w2.cell? ⟨w.heap.size, 7, none⟩ = some (.bool r.oT) := rb2.at_.c7
  have mc8 : w2.cell? ⟨w.heap.size, 8, none⟩ = some (.int .i64 r.oN) := rb2.at_.c8
  have mc9 : w2.cell? ⟨w.heap.size, 9, none⟩ = some (.bool r.nT) := rb2.at_.c9
  have mc10 : w2.cell? ⟨w.heap.size, 10, none⟩ = some (.int .i64 r.nN) := rb2.at_.c10
  go_wp2_with fail
  (with_reducible refine (c2 _).mono ?_)
  rintro e w3 ⟨rfl, k3⟩
  go_wp2
  go_ret
  refine ⟨rfl, below_more ?_ k3 (Nat.le_refl _)⟩
  repeat first | with_reducible exact kw2 | with_reducible refine below_sc ?_ hs2 _ | with_reducible refine Below.alloc ?_ hs2 _
set_option maxRecDepth 100000 in
set_option maxHeartbeats 1000000 in
theorem rp_8_1 (r : RecD) (ok : okR r) (hr : rightB r = true) (h1 : (r.kind == 1) = false) (h2 : (r.kind == 2) = false) (h7 : (r.kind == 7) = false) (h8 : (r.kind == 8) = true) (what : Int) (e0 : (what == 0) = false) (e1 : (what == 1) = true) (w : World) : Calls Try.prog 7 #[.agg #[.int .i64 r.kind, .int .i64 r.tx, .int .u16 r.mask, .int .u8 r.k0, .int .u8 r.k1, .int .u8 r.k2, .int .u8 r.k3, .bool r.oT, .int .i64 r.oN, .bool r.nT, .int .i64 r.nN], .int .i64 what] w fun e w' => e = .returned (.bool true) ∧ Below w.heap.size w w' := by
  have c0 : ∀ W, Calls Try.prog 8 #[] W fun e w' => e = .returned (.bool true) ∧ Below W.heap.size W w' := fun W => alive_any W
  have c1 : ∀ W, Calls Try.prog 18 #[.agg #[.int .i64 r.kind, .int .i64 r.tx, .int .u16 r.mask, .int .u8 r.k0, .int .u8 r.k1, .int .u8 r.k2, .int .u8 r.k3, .bool r.oT, .int .i64 r.oN, .bool r.nT, .int .i64 r.nN]] W fun e w' => e = .returned (.bool true) ∧ Below W.heap.size W w' := fun W => right_any r true hr W
  have HB := Lib.hid (recBox_new w r)
  clear hr ok
  go_enter Try.func7, Try.ntmps7
  go_wp2_with fail
  (with_reducible refine (c0 _).mono ?_)
  rintro e w1 ⟨rfl, k1⟩
  have rb1 : RecBox w1 w.heap.size r := HB.out.below k1 (by simp)
  have kw1 : Below w.heap.size w w1 := ((Below.refl _ w).alloc (Nat.le_refl _) _).trans (k1.mono (by simp))
  clear HB k1 c0
  have mc0 : w1.cell? ⟨w.heap.size, 0, none⟩ = some (.int .i64 r.kind) := rb1.at_.c0
  have mc1 : w1.cell? ⟨w.heap.size, 1, none⟩ = some (.int .i64 r.tx) := rb1.at_.c1
  have mc2 : w1.cell? ⟨w.heap.size, 2, none⟩ = some (.int .u16 r.mask) := rb1.at_.c2
  have mc3 : w1.cell? ⟨w.heap.size, 3, none⟩ = some (.int .u8 r.k0) := rb1.at_.c3
  have mc4 : w1.cell? ⟨w.heap.size, 4, none⟩ = some (.int .u8 r.k1) := rb1.at_.c4
  have mc5 : w1.cell? ⟨w.heap.size, 5, none⟩ = some (.int .u8 r.k2) := rb1.at_.c5
  have mc6 : w1.cell? ⟨w.heap.size, 6, none⟩ = some (.int .u8 r.k3) := rb1.at_.c6
  have mc7 : w1.cell? ⟨w.heap.size, 7, none⟩ = some (.bool r.oT) := rb1.at_.c7
  have mc8 : w1.cell? ⟨w.heap.size, 8, none⟩ = some (.int .i64 r.oN) := rb1.at_.c8
  have mc9 : w1.cell? ⟨w.heap.size, 9, none⟩ = some (.bool r.nT) := rb1.at_.c9
  have mc10 : w1.cell? ⟨w.heap.size, 10, none⟩ = some (.int .i64 r.nN) := rb1.at_.c10
  go_wp2_with fail
  (with_reducible refine (c1 _).mono ?_)
  rintro e w2 ⟨rfl, k2⟩
  have rb2 := rb1.below k2 rb1.at_.lt
  have kw2 := below_more kw1 k2 (Nat.le_refl _)
  have hs2 := kw2.size
  clear rb1 k2 c1 kw1 mc0 mc1 mc2 mc3 mc4 mc5 mc6 mc7 mc8 mc9 mc10
  have mc0 : w2.cell? ⟨w.heap.size, 0, none⟩ = some (.int .i64 r.kind) := rb2.at_.c0
  have mc1 : w2.cell? ⟨w.heap.size, 1, none⟩ = some (.int .i64 r.tx) := rb2.at_.c1
  have mc2 : w2.cell? ⟨w.heap.size, 2, none⟩ = some (.int .u16 r.mask) := rb2.at_.c2
  have mc3 : w2.cell? ⟨w.heap.size, 3, none⟩ = some (.int .u8 r.k0) := rb2.at_.c3
  have mc4 : w2.cell? ⟨w.heap.size, 4, none⟩ = some (.int .u8 r.k1) := rb2.at_.c4
  have mc5 : w2.cell? ⟨w.heap.size, 5, none⟩ = some (.int .u8 r.k2) := rb2.at_.c5
  have mc6 : w2.cell? ⟨w.heap.size, 6, none⟩ = some (.int .u8 r.k3) := rb2.at_.c6
  have mc7 : w2.cell? ⟨w.heap.size, 7, none⟩ = some (.bool r.oT) := rb2.at_.c7
  have mc8 : w2.cell? ⟨w.heap.size, 8, none⟩ = some (.int .i64 r.oN) := rb2.at_.c8
  have mc9 : w2.cell? ⟨w.heap.size, 9, none⟩ = some (.bool r.nT) := rb2.at_.c9
  have mc10 : w2.cell? ⟨w.heap.size, 10, none⟩ = some (.int .i64 r.nN) := rb2.at_.c10
  go_wp2
  go_ret
  refine ⟨rfl, ?_⟩
  repeat first | with_reducible exact kw2 | with_reducible refine below_sc ?_ hs2 _ | with_reducible refine Below.alloc ?_ hs2 _
set_option maxRecDepth 100000 in
set_option maxHeartbeats 1000000 in
theorem rp_8_2 (r : RecD) (ok : okR r) (hr : rightB r = true) (h1 : (r.kind == 1) = false) (h2 : (r.kind == 2) = false) (h7 : (r.kind == 7) = false) (h8 : (r.kind == 8) = true) (what : Int) (e0 : (what == 0) = false) (e1 : (what == 1) = false) (e2 : (what == 2) = true) (w : World) : Calls Try.prog 7 #[.agg #[.int .i64 r.kind, .int .i64 r.tx, .int .u16 r.mask, .int .u8 r.k0, .int .u8 r.k1, .int .u8 r.k2, .int .u8 r.k3, .bool r.oT, .int .i64 r.oN, .bool r.nT, .int .i64 r.nN], .int .i64 what] w fun e w' => e = .returned (.bool true) ∧ Below w.heap.size w w' := by
  have c0 : ∀ W, Calls Try.prog 8 #[] W fun e w' => e = .returned (.bool true) ∧ Below W.heap.size W w' := fun W => alive_any W
  have c1 : ∀ W, Calls Try.prog 18 #[.agg #[.int .i64 r.kind, .int .i64 r.tx, .int .u16 r.mask, .int .u8 r.k0, .int .u8 r.k1, .int .u8 r.k2, .int .u8 r.k3, .bool r.oT, .int .i64 r.oN, .bool r.nT, .int .i64 r.nN]] W fun e w' => e = .returned (.bool true) ∧ Below W.heap.size W w' := fun W => right_any r true hr W
  have c2 : ∀ W, Calls Try.prog 18 #[.agg #[.int .i64 r.kind, .int .i64 r.tx, .int .u16 r.mask, .int .u8 r.k0, .int .u8 r.k1, .int .u8 r.k2, .int .u8 r.k3, .bool true, .int .i64 0, .bool r.nT, .int .i64 r.nN]] W fun e w' => e = .returned (.bool false) ∧ Below W.heap.size W w' := fun W => right_any { r with oT := true, oN := 0 } false ((plain_2 r ok hr).trans (by simp [h1])) W
  have HB := Lib.hid (recBox_new w r)
  clear hr ok
  go_enter Try.func7, Try.ntmps7
  go_wp2_with fail
  (with_reducible refine (c0 _).mono ?_)
  rintro e w1 ⟨rfl, k1⟩
  have rb1 : RecBox w1 w.heap.size r := HB.out.below k1 (by simp)
  have kw1 : Below w.heap.size w w1 := ((Below.refl _ w).alloc (Nat.le_refl _) _).trans (k1.mono (by simp))
  clear HB k1 c0
  have mc0 : w1.cell? ⟨w.heap.size, 0, none⟩ = some (.int .i64 r.kind) := rb1.at_.c0
  have mc1 : w1.cell? ⟨w.heap.size, 1, none⟩ = some (.int .i64 r.tx) := rb1.at_.c1
  have mc2 : w1.cell? ⟨w.heap.size, 2, none⟩ = some (.int .u16 r.mask) := rb1.at_.c2
  have mc3 : w1.cell? ⟨w.heap.size, 3, none⟩ = some (.int .u8 r.k0) := rb1.at_.c3
  have mc4 : w1.cell? ⟨w.heap.size, 4, none⟩ = some (.int .u8 r.k1) := rb1.at_.c4
  have mc5 : w1.cell? ⟨w.heap.size, 5, none⟩ = some (.int .u8 r.k2) := rb1.at_.c5
  have mc6 : w1.cell? ⟨w.heap.size, 6, none⟩ = some (.int .u8 r.k3) := rb1.at_.c6
  have mc7 : w1.cell? ⟨w.heap.size, 7, none⟩ = some (.bool r.oT) := rb1.at_.c7
  have mc8 : w1.cell? ⟨w.heap.size, 8, none⟩ = some (.int .i64 r.oN) := rb1.at_.c8
  have mc9 : w1.cell? ⟨w.heap.size, 9, none⟩ = some (.bool r.nT) := rb1.at_.c9
  have mc10 : w1.cell? ⟨w.heap.size, 10, none⟩ = some (.int .i64 r.nN) := rb1.at_.c10
  go_wp2_with fail
  (with_reducible refine (c1 _).mono ?_)
  rintro e w2 ⟨rfl, k2⟩
  have rb2 := rb1.below k2 rb1.at_.lt
  have kw2 := below_more kw1 k2 (Nat.le_refl _)
  have hs2 := kw2.size
  clear rb1 k2 c1 kw1 mc0 mc1 mc2 mc3 mc4 mc5 mc6 mc7 mc8 mc9 mc10
  have mc0 : w2.cell? ⟨w.heap.size, 0, none⟩ = some (.int .i64 r.kind) := rb2.at_.c0
  have mc1 : w2.cell? ⟨w.heap.size, 1, none⟩ = some (.int .i64 r.tx) := rb2.at_.c1
  have mc2 : w2.cell? ⟨w.heap.size, 2, none⟩ = some (.int .u16 r.mask) := rb2.at_.c2
  have mc3 : w2.cell? ⟨w.heap.size, 3, none⟩ = some (.int .u8 r.k0) := rb2.at_.c3
  have mc4 : w2.cell? ⟨w.heap.size, 4, none⟩ = some (.int .u8 r.k1) := rb2.at_.c4
  have mc5 : w2.cell? ⟨w.heap.size, 5, none⟩ = some (.int .u8 r.k2) := rb2.at_.c5
  have mc6 : w2.cell? ⟨w.heap.size, 6, none⟩ = some (.int .u8 r.k3) := rb2.at_.c6
  have mc7 : w2.cell? ⟨w.heap.size, 7, none⟩ = some (.bool r.oT) := rb2.at_.c7
  have mc8 : w2.cell? ⟨w.heap.size, 8, none⟩ = some (.int .i64 r.oN) := rb2.at_.c8
  have mc9 : w2.cell? ⟨w.heap.size, 9, none⟩ = some (.bool r.nT) := rb2.at_.c9
  have mc10 : w2.cell? ⟨w.heap.size, 10, none⟩ = some (.int .i64 r.nN) := rb2.at_.c10
  go_wp2_with fail
  have rx : RecBox (w2.alloc (.cells #[.int .i64 r.kind, .int .i64 r.tx, .int .u16 r.mask, .int .u8 r.k0, .int .u8 r.k1, .int .u8 r.k2, .int .u8 r.k3, .bool true, .int .i64 0, .bool r.nT, .int .i64 r.nN] 32)) w2.heap.size { r with oT := true, oN := 0 } := recBox_new w2 { r with oT := true, oN := 0 }
  have rk := rb2.below ((Below.refl w2.heap.size w2).alloc (Nat.le_refl _) (.cells #[.int .i64 r.kind, .int .i64 r.tx, .int .u16 r.mask, .int .u8 r.k0, .int .u8 r.k1, .int .u8 r.k2, .int .u8 r.k3, .bool true, .int .i64 0, .bool r.nT, .int .i64 r.nN] 32)) rb2.at_.lt
  have kw3 : Below w.heap.size w (w2.alloc (.cells #[.int .i64 r.kind, .int .i64 r.tx, .int .u16 r.mask, .int .u8 r.k0, .int .u8 r.k1, .int .u8 r.k2, .int .u8 r.k3, .bool true, .int .i64 0, .bool r.nT, .int .i64 r.nN] 32)) := kw2.alloc hs2 _
  clear kw2 hs2 rb2 mc0 mc1 mc2 mc3 mc4 mc5 mc6 mc7 mc8 mc9 mc10
  generalize (w2.alloc (.cells #[.int .i64 r.kind, .int .i64 r.tx, .int .u16 r.mask, .int .u8 r.k0, .int .u8 r.k1, .int .u8 r.k2, .int .u8 r.k3, .bool true, .int .i64 0, .bool r.nT, .int .i64 r.nN] 32)) = w3 at *
  generalize w2.heap.size = m at *
  have kS : ∀ W, Below w3.heap.size w3 W → (W.cell? ⟨m, 0, none⟩ = some (.int .i64 r.kind) ∧ W.cell? ⟨m, 1, none⟩ = some (.int .i64 r.tx) ∧ W.cell? ⟨m, 2, none⟩ = some (.int .u16 r.mask) ∧ W.cell? ⟨m, 3, none⟩ = some (.int .u8 r.k0) ∧ W.cell? ⟨m, 4, none⟩ = some (.int .u8 r.k1) ∧ W.cell? ⟨m, 5, none⟩ = some (.int .u8 r.k2) ∧ W.cell? ⟨m, 6, none⟩ = some (.int .u8 r.k3) ∧ W.cell? ⟨m, 7, none⟩ = some (.bool true) ∧ W.cell? ⟨m, 8, none⟩ = some (.int .i64 0) ∧ W.cell? ⟨m, 9, none⟩ = some (.bool r.nT) ∧ W.cell? ⟨m, 10, none⟩ = some (.int .i64 r.nN) ∧ W.cell? ⟨w.heap.size, 0, none⟩ = some (.int .i64 r.kind) ∧ Below w3.heap.size w3 W) := fun W hb => by
    have r' := rx.below hb rx.at_.lt
    have q' := rk.below hb rk.at_.lt
    exact ⟨r'.at_.c0, r'.at_.c1, r'.at_.c2, r'.at_.c3, r'.at_.c4, r'.at_.c5, r'.at_.c6, r'.at_.c7, r'.at_.c8, r'.at_.c9, r'.at_.c10, q'.at_.c0, hb⟩
  have kd : Below w3.heap.size w3 w3.drew := (Below.refl _ _).drew
  have KS := Lib.hid kS
  clear kS rx rk
  go_region_held3 (fun w' => (w'.cell? ⟨m, 0, none⟩ = some (.int .i64 r.kind) ∧ w'.cell? ⟨m, 1, none⟩ = some (.int .i64 r.tx) ∧ w'.cell? ⟨m, 2, none⟩ = some (.int .u16 r.mask) ∧ w'.cell? ⟨m, 3, none⟩ = some (.int .u8 r.k0) ∧ w'.cell? ⟨m, 4, none⟩ = some (.int .u8 r.k1) ∧ w'.cell? ⟨m, 5, none⟩ = some (.int .u8 r.k2) ∧ w'.cell? ⟨m, 6, none⟩ = some (.int .u8 r.k3) ∧ w'.cell? ⟨m, 7, none⟩ = some (.bool true) ∧ w'.cell? ⟨m, 8, none⟩ = some (.int .i64 0) ∧ w'.cell? ⟨m, 9, none⟩ = some (.bool r.nT) ∧ w'.cell? ⟨m, 10, none⟩ = some (.int .i64 r.nN) ∧ w'.cell? ⟨w.heap.size, 0, none⟩ = some (.int .i64 r.kind) ∧ Below w3.heap.size w3 w')) (first | assumption | exact KS.out _ kd | exact KS.out _ z4) ((go_at_call 18; (with_reducible refine (c2 _).mono ?_); rintro e w4 ⟨rfl, k4⟩; have z4 : Below w3.heap.size w3 w4 := kd.trans k4))
  go_wp2
  go_ret
  exact ⟨rfl, below_more kw3 z4 (Nat.le_refl _)⟩
set_option maxRecDepth 100000 in
set_option maxHeartbeats 1000000 in
theorem rp_8_3 (r : RecD) (ok : okR r) (hr : rightB r = true) (h1 : (r.kind == 1) = false) (h2 : (r.kind == 2) = false) (h7 : (r.kind == 7) = false) (h8 : (r.kind == 8) = true) (what : Int) (e0 : (what == 0) = false) (e1 : (what == 1) = false) (e2 : (what == 2) = false) (e3 : (what == 3) = true) (w : World) : Calls Try.prog 7 #[.agg #[.int .i64 r.kind, .int .i64 r.tx, .int .u16 r.mask, .int .u8 r.k0, .int .u8 r.k1, .int .u8 r.k2, .int .u8 r.k3, .bool r.oT, .int .i64 r.oN, .bool r.nT, .int .i64 r.nN], .int .i64 what] w fun e w' => e = .returned (.bool true) ∧ Below w.heap.size w w' := by
  have c0 : ∀ W, Calls Try.prog 8 #[] W fun e w' => e = .returned (.bool true) ∧ Below W.heap.size W w' := fun W => alive_any W
  have c1 : ∀ W, Calls Try.prog 18 #[.agg #[.int .i64 r.kind, .int .i64 r.tx, .int .u16 r.mask, .int .u8 r.k0, .int .u8 r.k1, .int .u8 r.k2, .int .u8 r.k3, .bool r.oT, .int .i64 r.oN, .bool r.nT, .int .i64 r.nN]] W fun e w' => e = .returned (.bool true) ∧ Below W.heap.size W w' := fun W => right_any r true hr W
  have c2 : ∀ W, Calls Try.prog 18 #[.agg #[.int .i64 r.kind, .int .i64 r.tx, .int .u16 r.mask, .int .u8 r.k0, .int .u8 r.k1, .int .u8 r.k2, .int .u8 r.k3, .bool r.oT, .int .i64 r.oN, .bool false, .int .i64 1]] W fun e w' => e = .returned (.bool false) ∧ Below W.heap.size W w' := fun W => right_any { r with nT := false, nN := 1 } false (plain_3 r ok hr) W
  have HB := Lib.hid (recBox_new w r)
  clear hr ok
  go_enter Try.func7, Try.ntmps7
  go_wp2_with fail
  (with_reducible refine (c0 _).mono ?_)
  rintro e w1 ⟨rfl, k1⟩
  have rb1 : RecBox w1 w.heap.size r := HB.out.below k1 (by simp)
  have kw1 : Below w.heap.size w w1 := ((Below.refl _ w).alloc (Nat.le_refl _) _).trans (k1.mono (by simp))
  clear HB k1 c0
  have mc0 : w1.cell? ⟨w.heap.size, 0, none⟩ = some (.int .i64 r.kind) := rb1.at_.c0
  have mc1 : w1.cell? ⟨w.heap.size, 1, none⟩ = some (.int .i64 r.tx) := rb1.at_.c1
  have mc2 : w1.cell? ⟨w.heap.size, 2, none⟩ = some (.int .u16 r.mask) := rb1.at_.c2
  have mc3 : w1.cell? ⟨w.heap.size, 3, none⟩ = some (.int .u8 r.k0) := rb1.at_.c3
  have mc4 : w1.cell? ⟨w.heap.size, 4, none⟩ = some (.int .u8 r.k1) := rb1.at_.c4
  have mc5 : w1.cell? ⟨w.heap.size, 5, none⟩ = some (.int .u8 r.k2) := rb1.at_.c5
  have mc6 : w1.cell? ⟨w.heap.size, 6, none⟩ = some (.int .u8 r.k3) := rb1.at_.c6
  have mc7 : w1.cell? ⟨w.heap.size, 7, none⟩ = some (.bool r.oT) := rb1.at_.c7
  have mc8 : w1.cell? ⟨w.heap.size, 8, none⟩ = some (.int .i64 r.oN) := rb1.at_.c8
  have mc9 : w1.cell? ⟨w.heap.size, 9, none⟩ = some (.bool r.nT) := rb1.at_.c9
  have mc10 : w1.cell? ⟨w.heap.size, 10, none⟩ = some (.int .i64 r.nN) := rb1.at_.c10
  go_wp2_with fail
  (with_reducible refine (c1 _).mono ?_)
  rintro e w2 ⟨rfl, k2⟩
  have rb2 := rb1.below k2 rb1.at_.lt
  have kw2 := below_more kw1 k2 (Nat.le_refl _)
  have hs2 := kw2.size
  clear rb1 k2 c1 kw1 mc0 mc1 mc2 mc3 mc4 mc5 mc6 mc7 mc8 mc9 mc10
  have mc0 : w2.cell? ⟨w.heap.size, 0, none⟩ = some (.int .i64 r.kind) := rb2.at_.c0
  have mc1 : w2.cell? ⟨w.heap.size, 1, none⟩ = some (.int .i64 r.tx) := rb2.at_.c1
  have mc2 : w2.cell? ⟨w.heap.size, 2, none⟩ = some (.int .u16 r.mask) := rb2.at_.c2
  have mc3 : w2.cell? ⟨w.heap.size, 3, none⟩ = some (.int .u8 r.k0) := rb2.at_.c3
  have mc4 : w2.cell? ⟨w.heap.size, 4, none⟩ = some (.int .u8 r.k1) := rb2.at_.c4
  have mc5 : w2.cell? ⟨w.heap.size, 5, none⟩ = some (.int .u8 r.k2) := rb2.at_.c5
  have mc6 : w2.cell? ⟨w.heap.size, 6, none⟩ = some (.int .u8 r.k3) := rb2.at_.c6
  have mc7 : w2.cell? ⟨w.heap.size, 7, none⟩ = some (.bool r.oT) := rb2.at_.c7
  have mc8 : w2.cell? ⟨w.heap.size, 8, none⟩ = some (.int .i64 r.oN) := rb2.at_.c8
  have mc9 : w2.cell? ⟨w.heap.size, 9, none⟩ = some (.bool r.nT) := rb2.at_.c9
  have mc10 : w2.cell? ⟨w.heap.size, 10, none⟩ = some (.int .i64 r.nN) := rb2.at_.c10
  go_wp2_with fail
  (with_reducible refine (c2 _).mono ?_)
  rintro e w3 ⟨rfl, k3⟩
  go_wp2
  go_ret
  refine ⟨rfl, below_more ?_ k3 (Nat.le_refl _)⟩
  repeat first | with_reducible exact kw2 | with_reducible refine below_sc ?_ hs2 _ | with_reducible refine Below.alloc ?_ hs2 _
set_option maxRecDepth 100000 in
set_option maxHeartbeats 1000000 in
theorem rp_8_4 (r : RecD) (ok : okR r) (hr : rightB r = true) (h1 : (r.kind == 1) = false) (h2 : (r.kind == 2) = false) (h7 : (r.kind == 7) = false) (h8 : (r.kind == 8) = true) (what : Int) (e0 : (what == 0) = false) (e1 : (what == 1) = false) (e2 : (what == 2) = false) (e3 : (what == 3) = false) (w : World) : Calls Try.prog 7 #[.agg #[.int .i64 r.kind, .int .i64 r.tx, .int .u16 r.mask, .int .u8 r.k0, .int .u8 r.k1, .int .u8 r.k2, .int .u8 r.k3, .bool r.oT, .int .i64 r.oN, .bool r.nT, .int .i64 r.nN], .int .i64 what] w fun e w' => e = .returned (.bool true) ∧ Below w.heap.size w w' := by
  have c0 : ∀ W, Calls Try.prog 8 #[] W fun e w' => e = .returned (.bool true) ∧ Below W.heap.size W w' := fun W => alive_any W
  have c1 : ∀ W, Calls Try.prog 18 #[.agg #[.int .i64 r.kind, .int .i64 r.tx, .int .u16 r.mask, .int .u8 r.k0, .int .u8 r.k1, .int .u8 r.k2, .int .u8 r.k3, .bool r.oT, .int .i64 r.oN, .bool r.nT, .int .i64 r.nN]] W fun e w' => e = .returned (.bool true) ∧ Below W.heap.size W w' := fun W => right_any r true hr W
  have c2 : ∀ W, Calls Try.prog 18 #[.agg #[.int .i64 r.kind, .int .i64 0, .int .u16 r.mask, .int .u8 r.k0, .int .u8 r.k1, .int .u8 r.k2, .int .u8 r.k3, .bool r.oT, .int .i64 r.oN, .bool r.nT, .int .i64 r.nN]] W fun e w' => e = .returned (.bool true) ∧ Below W.heap.size W w' := fun W => right_any { r with tx := 0 } true ((plain_4 r ok hr).trans (by simp [h7, h8])) W
  have HB := Lib.hid (recBox_new w r)
  clear hr ok
  go_enter Try.func7, Try.ntmps7
  go_wp2_with fail
  (with_reducible refine (c0 _).mono ?_)
  rintro e w1 ⟨rfl, k1⟩
  have rb1 : RecBox w1 w.heap.size r := HB.out.below k1 (by simp)
  have kw1 : Below w.heap.size w w1 := ((Below.refl _ w).alloc (Nat.le_refl _) _).trans (k1.mono (by simp))
  clear HB k1 c0
  have mc0 : w1.cell? ⟨w.heap.size, 0, none⟩ = some (.int .i64 r.kind) := rb1.at_.c0
  have mc1 : w1.cell? ⟨w.heap.size, 1, none⟩ = some (.int .i64 r.tx) := rb1.at_.c1
  have mc2 : w1.cell? ⟨w.heap.size, 2, none⟩ = some (.int .u16 r.mask) := rb1.at_.c2
  have mc3 : w1.cell? ⟨w.heap.size, 3, none⟩ = some (.int .u8 r.k0) := rb1.at_.c3
  have mc4 : w1.cell? ⟨w.heap.size, 4, none⟩ = some (.int .u8 r.k1) := rb1.at_.c4
  have mc5 : w1.cell? ⟨w.heap.size, 5, none⟩ = some (.int .u8 r.k2) := rb1.at_.c5
  have mc6 : w1.cell? ⟨w.heap.size, 6, none⟩ = some (.int .u8 r.k3) := rb1.at_.c6
  have mc7 : w1.cell? ⟨w.heap.size, 7, none⟩ = some (.bool r.oT) := rb1.at_.c7
  have mc8 : w1.cell? ⟨w.heap.size, 8, none⟩ = some (.int .i64 r.oN) := rb1.at_.c8
  have mc9 : w1.cell? ⟨w.heap.size, 9, none⟩ = some (.bool r.nT) := rb1.at_.c9
  have mc10 : w1.cell? ⟨w.heap.size, 10, none⟩ = some (.int .i64 r.nN) := rb1.at_.c10
  go_wp2_with fail
  (with_reducible refine (c1 _).mono ?_)
  rintro e w2 ⟨rfl, k2⟩
  have rb2 := rb1.below k2 rb1.at_.lt
  have kw2 := below_more kw1 k2 (Nat.le_refl _)
  have hs2 := kw2.size
  clear rb1 k2 c1 kw1 mc0 mc1 mc2 mc3 mc4 mc5 mc6 mc7 mc8 mc9 mc10
  have mc0 : w2.cell? ⟨w.heap.size, 0, none⟩ = some (.int .i64 r.kind) := rb2.at_.c0
  have mc1 : w2.cell? ⟨w.heap.size, 1, none⟩ = some (.int .i64 r.tx) := rb2.at_.c1
  have mc2 : w2.cell? ⟨w.heap.size, 2, none⟩ = some (.int .u16 r.mask) := rb2.at_.c2
  have mc3 : w2.cell? ⟨w.heap.size, 3, none⟩ = some (.int .u8 r.k0) := rb2.at_.c3
  have mc4 : w2.cell? ⟨w.heap.size, 4, none⟩ = some (.int .u8 r.k1) := rb2.at_.c4
  have mc5 : w2.cell? ⟨w.heap.size, 5, none⟩ = some (.int .u8 r.k2) := rb2.at_.c5
  have mc6 : w2.cell? ⟨w.heap.size, 6, none⟩ = some (.int .u8 r.k3) := rb2.at_.c6
  have mc7 : w2.cell? ⟨w.heap.size, 7, none⟩ = some (.bool r.oT) := rb2.at_.c7
  have mc8 : w2.cell? ⟨w.heap.size, 8, none⟩ = some (.int .i64 r.oN) := rb2.at_.c8
  have mc9 : w2.cell? ⟨w.heap.size, 9, none⟩ = some (.bool r.nT) := rb2.at_.c9
  have mc10 : w2.cell? ⟨w.heap.size, 10, none⟩ = some (.int .i64 r.nN) := rb2.at_.c10
  go_wp2_with fail
  have rx : RecBox (w2.alloc (.cells #[.int .i64 r.kind, .int .i64 0, .int .u16 r.mask, .int .u8 r.k0, .int .u8 r.k1, .int .u8 r.k2, .int .u8 r.k3, .bool r.oT, .int .i64 r.oN, .bool r.nT, .int .i64 r.nN] 32)) w2.heap.size { r with tx := 0 } := recBox_new w2 { r with tx := 0 }
  have rk := rb2.below ((Below.refl w2.heap.size w2).alloc (Nat.le_refl _) (.cells #[.int .i64 r.kind, .int .i64 0, .int .u16 r.mask, .int .u8 r.k0, .int .u8 r.k1, .int .u8 r.k2, .int .u8 r.k3, .bool r.oT, .int .i64 r.oN, .bool r.nT, .int .i64 r.nN] 32)) rb2.at_.lt
  have kw3 : Below w.heap.size w (w2.alloc (.cells #[.int .i64 r.kind, .int .i64 0, .int .u16 r.mask, .int .u8 r.k0, .int .u8 r.k1, .int .u8 r.k2, .int .u8 r.k3, .bool r.oT, .int .i64 r.oN, .bool r.nT, .int .i64 r.nN] 32)) := kw2.alloc hs2 _
  clear kw2 hs2 rb2 mc0 mc1 mc2 mc3 mc4 mc5 mc6 mc7 mc8 mc9 mc10
  generalize (w2.alloc (.cells #[.int .i64 r.kind, .int .i64 0, .int .u16 r.mask, .int .u8 r.k0, .int .u8 r.k1, .int .u8 r.k2, .int .u8 r.k3, .bool r.oT, .int .i64 r.oN, .bool r.nT, .int .i64 r.nN] 32)) = w3 at *
  generalize w2.heap.size = m at *
  have kS : ∀ W, Below w3.heap.size w3 W → (W.cell? ⟨m, 0, none⟩ = some (.int .i64 r.kind) ∧ W.cell? ⟨m, 1, none⟩ = some (.int .i64 0) ∧ W.cell? ⟨m, 2, none⟩ = some (.int .u16 r.mask) ∧ W.cell? ⟨m, 3, none⟩ = some (.int .u8 r.k0) ∧ W.cell? ⟨m, 4, none⟩ = some (.int .u8 r.k1) ∧ W.cell? ⟨m, 5, none⟩ = some (.int .u8 r.k2) ∧ W.cell? ⟨m, 6, none⟩ = some (.int .u8 r.k3) ∧ W.cell? ⟨m, 7, none⟩ = some (.bool r.oT) ∧ W.cell? ⟨m, 8, none⟩ = some (.int .i64 r.oN) ∧ W.cell? ⟨m, 9, none⟩ = some (.bool r.nT) ∧ W.cell? ⟨m, 10, none⟩ = some (.int .i64 r.nN) ∧ W.cell? ⟨w.heap.size, 0, none⟩ = some (.int .i64 r.kind) ∧ Below w3.heap.size w3 W) := fun W hb => by
    have r' := rx.below hb rx.at_.lt
    have q' := rk.below hb rk.at_.lt
    exact ⟨r'.at_.c0, r'.at_.c1, r'.at_.c2, r'.at_.c3, r'.at_.c4, r'.at_.c5, r'.at_.c6, r'.at_.c7, r'.at_.c8, r'.at_.c9, r'.at_.c10, q'.at_.c0, hb⟩
  have kd : Below w3.heap.size w3 w3.drew := (Below.refl _ _).drew
  have KS := Lib.hid kS
  clear kS rx rk
  go_region_held3 (fun w' => (w'.cell? ⟨m, 0, none⟩ = some (.int .i64 r.kind) ∧ w'.cell? ⟨m, 1, none⟩ = some (.int .i64 0) ∧ w'.cell? ⟨m, 2, none⟩ = some (.int .u16 r.mask) ∧ w'.cell? ⟨m, 3, none⟩ = some (.int .u8 r.k0) ∧ w'.cell? ⟨m, 4, none⟩ = some (.int .u8 r.k1) ∧ w'.cell? ⟨m, 5, none⟩ = some (.int .u8 r.k2) ∧ w'.cell? ⟨m, 6, none⟩ = some (.int .u8 r.k3) ∧ w'.cell? ⟨m, 7, none⟩ = some (.bool r.oT) ∧ w'.cell? ⟨m, 8, none⟩ = some (.int .i64 r.oN) ∧ w'.cell? ⟨m, 9, none⟩ = some (.bool r.nT) ∧ w'.cell? ⟨m, 10, none⟩ = some (.int .i64 r.nN) ∧ w'.cell? ⟨w.heap.size, 0, none⟩ = some (.int .i64 r.kind) ∧ Below w3.heap.size w3 w')) (first | assumption | exact KS.out _ kd | exact KS.out _ z4) ((go_at_call 18; (with_reducible refine (c2 _).mono ?_); rintro e w4 ⟨rfl, k4⟩; have z4 : Below w3.heap.size w3 w4 := kd.trans k4))
  go_wp2
  go_ret
  exact ⟨rfl, below_more kw3 z4 (Nat.le_refl _)⟩
set_option maxRecDepth 100000 in
set_option maxHeartbeats 1000000 in
theorem rp_o_0 (r : RecD) (ok : okR r) (hr : rightB r = true) (h1 : (r.kind == 1) = false) (h2 : (r.kind == 2) = false) (h7 : (r.kind == 7) = false) (h8 : (r.kind == 8) = false) (what : Int) (e0 : (what == 0) = true) (w : World) : Calls Try.prog 7 #[.agg #[.int .i64 r.kind, .int .i64 r.tx, .int .u16 r.mask, .int .u8 r.k0, .int .u8 r.k1, .int .u8 r.k2, .int .u8 r.k3, .bool r.oT, .int .i64 r.oN, .bool r.nT, .int .i64 r.nN], .int .i64 what] w fun e w' => e = .returned (.bool true) ∧ Below w.heap.size w w' := by
  have c0 : ∀ W, Calls Try.prog 8 #[] W fun e w' => e = .returned (.bool true) ∧ Below W.heap.size W w' := fun W => alive_any W
  have c1 : ∀ W, Calls Try.prog 18 #[.agg #[.int .i64 r.kind, .int .i64 r.tx, .int .u16 r.mask, .int .u8 r.k0, .int .u8 r.k1, .int .u8 r.k2, .int .u8 r.k3, .bool r.oT, .int .i64 r.oN, .bool r.nT, .int .i64 r.nN]] W fun e w' => e = .returned (.bool true) ∧ Below W.heap.size W w' := fun W => right_any r true hr W
  have c2 : ∀ W, Calls Try.prog 18 #[.agg #[.int .i64 r.kind, .int .i64 r.tx, .int .u16 r.mask, .int .u8 r.k0, .int .u8 r.k1, .int .u8 r.k2, .int .u8 ((r.k3 + 1) % 256), .bool r.oT, .int .i64 r.oN, .bool r.nT, .int .i64 r.nN]] W fun e w' => e = .returned (.bool false) ∧ Below W.heap.size W w' := fun W => right_any { r with k3 := (r.k3 + 1) % 256 } false ((plain_0 r ok hr).trans (by simp [h1, h7])) W
  have hzw : IntKind.u8.wrap (r.k3 + 1) = (r.k3 + 1) % 256 := by rw [IntKind.wrap_u8]
  generalize (r.k3 + 1) % 256 = z at *
  have HB := Lib.hid (recBox_new w r)
  clear hr ok
  go_enter Try.func7, Try.ntmps7
  go_wp2_with fail
  (with_reducible refine (c0 _).mono ?_)
  rintro e w1 ⟨rfl, k1⟩
  have rb1 : RecBox w1 w.heap.size r := HB.out.below k1 (by simp)
  have kw1 : Below w.heap.size w w1 := ((Below.refl _ w).alloc (Nat.le_refl _) _).trans (k1.mono (by simp))
  clear HB k1 c0
  have mc0 : w1.cell? ⟨w.heap.size, 0, none⟩ = some (.int .i64 r.kind) := rb1.at_.c0
  have mc1 : w1.cell? ⟨w.heap.size, 1, none⟩ = some (.int .i64 r.tx) := rb1.at_.c1
  have mc2 : w1.cell? ⟨w.heap.size, 2, none⟩ = some (.int .u16 r.mask) := rb1.at_.c2
  have mc3 : w1.cell? ⟨w.heap.size, 3, none⟩ = some (.int .u8 r.k0) := rb1.at_.c3
  have mc4 : w1.cell? ⟨w.heap.size, 4, none⟩ = some (.int .u8 r.k1) := rb1.at_.c4
  have mc5 : w1.cell? ⟨w.heap.size, 5, none⟩ = some (.int .u8 r.k2) := rb1.at_.c5
  have mc6 : w1.cell? ⟨w.heap.size, 6, none⟩ = some (.int .u8 r.k3) := rb1.at_.c6
  have mc7 : w1.cell? ⟨w.heap.size, 7, none⟩ = some (.bool r.oT) := rb1.at_.c7
  have mc8 : w1.cell? ⟨w.heap.size, 8, none⟩ = some (.int .i64 r.oN) := rb1.at_.c8
  have mc9 : w1.cell? ⟨w.heap.size, 9, none⟩ = some (.bool r.nT) := rb1.at_.c9
  have mc10 : w1.cell? ⟨w.heap.size, 10, none⟩ = some (.int .i64 r.nN) := rb1.at_.c10
  go_wp2_with fail
  (with_reducible refine (c1 _).mono ?_)
  rintro e w2 ⟨rfl, k2⟩
  have rb2 := rb1.below k2 rb1.at_.lt
  have kw2 := below_more kw1 k2 (Nat.le_refl _)
  have hs2 := kw2.size
  clear rb1 k2 c1 kw1 mc0 mc1 mc2 mc3 mc4 mc5 mc6 mc7 mc8 mc9 mc10
  have mc0 : w2.cell? ⟨w.heap.size, 0, none⟩ = some (.int .i64 r.kind) := rb2.at_.c0
  have mc1 : w2.cell? ⟨w.heap.size, 1, none⟩ = some (.int .i64 r.tx) := rb2.at_.c1
  have mc2 : w2.cell? ⟨w.heap.size, 2, none⟩ = some (.int .u16 r.mask) := rb2.at_.c2
  have mc3 : w2.cell? ⟨w.heap.size, 3, none⟩ = some (.int .u8 r.k0) := rb2.at_.c3
  have mc4 : w2.cell? ⟨w.heap.size, 4, none⟩ = some (.int .u8 r.k1) := rb2.at_.c4
  have mc5 : w2.cell? ⟨w.heap.size, 5, none⟩ = some (.int .u8 r.k2) := rb2.at_.c5
  have mc6 : w2.cell? ⟨w.heap.size, 6, none⟩ = some (.int .u8 r.k3) := rb2.at_.c6
  have mc7 : w2.cell? ⟨w.heap.size, 7, none⟩ = some (.bool r.oT) := rb2.at_.c7
  have mc8 : w2.cell? ⟨w.heap.size, 8, none⟩ = some (.int .i64 r.oN) := rb2.at_.c8
  have mc9 : w2.cell? ⟨w.heap.size, 9, none⟩ = some (.bool r.nT) := rb2.at_.c9
  have mc10 : w2.cell? ⟨w.heap.size, 10, none⟩ = some (.int .i64 r.nN) := rb2.at_.c10
  go_wp2_with fail
  (with_reducible refine (c2 _).mono ?_)
  rintro e w3 ⟨rfl, k3⟩
  go_wp2
  go_ret
  refine ⟨rfl, below_more ?_ k3 (Nat.le_refl _)⟩
  repeat first | with_reducible exact kw2 | with_reducible refine below_sc ?_ hs2 _ | with_reducible refine Below.alloc ?_ hs2 _
set_option maxRecDepth 100000 in
set_option maxHeartbeats 1000000 in
theorem rp_o_1 (r : RecD) (ok : okR r) (hr : rightB r = true) (h1 : (r.kind == 1) = false) (h2 : (r.kind == 2) = false) (h7 : (r.kind == 7) = false) (h8 : (r.kind == 8) = false) (what : Int) (e0 : (what == 0) = false) (e1 : (what == 1) = true) (w : World) : Calls Try.prog 7 #[.agg #[.int .i64 r.kind, .int .i64 r.tx, .int .u16 r.mask, .int .u8 r.k0, .int .u8 r.k1, .int .u8 r.k2, .int .u8 r.k3, .bool r.oT, .int .i64 r.oN, .bool r.nT, .int .i64 r.nN], .int .i64 what] w fun e w' => e = .returned (.bool true) ∧ Below w.heap.size w w' := by
  have c0 : ∀ W, Calls Try.prog 8 #[] W fun e w' => e = .returned (.bool true) ∧ Below W.heap.size W w' := fun W => alive_any W
  have c1 : ∀ W, Calls Try.prog 18 #[.agg #[.int .i64 r.kind, .int .i64 r.tx, .int .u16 r.mask, .int .u8 r.k0, .int .u8 r.k1, .int .u8 r.k2, .int .u8 r.k3, .bool r.oT, .int .i64 r.oN, .bool r.nT, .int .i64 r.nN]] W fun e w' => e = .returned (.bool true) ∧ Below W.heap.size W w' := fun W => right_any r true hr W
  have c2 : ∀ W, Calls Try.prog 18 #[.agg #[.int .i64 r.kind, .int .i64 r.tx, .int .u16 1, .int .u8 r.k0, .int .u8 r.k1, .int .u8 r.k2, .int .u8 r.k3, .bool r.oT, .int .i64 r.oN, .bool r.nT, .int .i64 r.nN]] W fun e w' => e = .returned (.bool false) ∧ Below W.heap.size W w' := fun W => right_any { r with mask := 1 } false ((plain_1 r ok hr (by simp [h2, h8])).2) W
  have hm0 : r.mask = 0 := (plain_1 r ok hr (by simp [h2, h8])).1
  have hx1 : bits .xor .u16 (r.mask : Int) 1 = 1 := by rw [hm0]; decide
  clear hm0
  have HB := Lib.hid (recBox_new w r)
  clear hr ok
  go_enter Try.func7, Try.ntmps7
  go_wp2_with fail
  (with_reducible refine (c0 _).mono ?_)
  rintro e w1 ⟨rfl, k1⟩
  have rb1 : RecBox w1 w.heap.size r := HB.out.below k1 (by simp)
  have kw1 : Below w.heap.size w w1 := ((Below.refl _ w).alloc (Nat.le_refl _) _).trans (k1.mono (by simp))
  clear HB k1 c0
  have mc0 : w1.cell? ⟨w.heap.size, 0, none⟩ = some (.int .i64 r.kind) := rb1.at_.c0
  have mc1 : w1.cell? ⟨w.heap.size, 1, none⟩ = some (.int .i64 r.tx) := rb1.at_.c1
  have mc2 : w1.cell? ⟨w.heap.size, 2, none⟩ = some (.int .u16 r.mask) := rb1.at_.c2
  have mc3 : w1.cell? ⟨w.heap.size, 3, none⟩ = some (.int .u8 r.k0) := rb1.at_.c3
  have mc4 : w1.cell? ⟨w.heap.size, 4, none⟩ = some (.int .u8 r.k1) := rb1.at_.c4
  have mc5 : w1.cell? ⟨w.heap.size, 5, none⟩ = some (.int .u8 r.k2) := rb1.at_.c5
  have mc6 : w1.cell? ⟨w.heap.size, 6, none⟩ = some (.int .u8 r.k3) := rb1.at_.c6
  have mc7 : w1.cell? ⟨w.heap.size, 7, none⟩ = some (.bool r.oT) := rb1.at_.c7
  have mc8 : w1.cell? ⟨w.heap.size, 8, none⟩ = some (.int .i64 r.oN) := rb1.at_.c8
  have mc9 : w1.cell? ⟨w.heap.size, 9, none⟩ = some (.bool r.nT) := rb1.at_.c9
  have mc10 : w1.cell? ⟨w.heap.size, 10, none⟩ = some (.int .i64 r.nN) := rb1.at_.c10
  go_wp2_with fail
  (with_reducible refine (c1 _).mono ?_)
  rintro e w2 ⟨rfl, k2⟩
  have rb2 := rb1.below k2 rb1.at_.lt
  have kw2 := below_more kw1 k2 (Nat.le_refl _)
  have hs2 := kw2.size
  clear rb1 k2 c1 kw1 mc0 mc1 mc2 mc3 mc4 mc5 mc6 mc7 mc8 mc9 mc10
  have mc0 : w2.cell? ⟨w.heap.size, 0, none⟩ = some (.int .i64 r.kind) := rb2.at_.c0
  have mc1 : w2.cell? ⟨w.heap.size, 1, none⟩ = some (.int .i64 r.tx) := rb2.at_.c1
  have mc2 : w2.cell? ⟨w.heap.size, 2, none⟩ = some (.int .u16 r.mask) := rb2.at_.c2
  have mc3 : w2.cell? ⟨w.heap.size, 3, none⟩ = some (.int .u8 r.k0) := rb2.at_.c3
  have mc4 : w2.cell? ⟨w.heap.size, 4, none⟩ = some (.int .u8 r.k1) := rb2.at_.c4
  have mc5 : w2.cell? ⟨w.heap.size, 5, none⟩ = some (.int .u8 r.k2) := rb2.at_.c5
  have mc6 : w2.cell? ⟨w.heap.size, 6, none⟩ = some (.int .u8 r.k3) := rb2.at_.c6
  have mc7 : w2.cell? ⟨w.heap.size, 7, none⟩ = some (.bool r.oT) := rb2.at_.c7
  have mc8 : w2.cell? ⟨w.heap.size, 8, none⟩ = some (.int .i64 r.oN) := rb2.at_.c8
  have mc9 : w2.cell? ⟨w.heap.size, 9, none⟩ = some (.bool r.nT) := rb2.at_.c9
  have mc10 : w2.cell? ⟨w.heap.size, 10, none⟩ = some (.int .i64 r.nN) := rb2.at_.c10
  go_wp2_with fail
  (with_reducible refine (c2 _).mono ?_)
  rintro e w3 ⟨rfl, k3⟩
  go_wp2
  go_ret
  refine ⟨rfl, below_more ?_ k3 (Nat.le_refl _)⟩
  repeat first | with_reducible exact kw2 | with_reducible refine below_sc ?_ hs2 _ | with_reducible refine Below.alloc ?_ hs2 _
set_option maxRecDepth 100000 in
set_option maxHeartbeats 1000000 in
theorem rp_o_2 (r : RecD) (ok : okR r) (hr : rightB r = true) (h1 : (r.kind == 1) = false) (h2 : (r.kind == 2) = false) (h7 : (r.kind == 7) = false) (h8 : (r.kind == 8) = false) (what : Int) (e0 : (what == 0) = false) (e1 : (what == 1) = false) (e2 : (what == 2) = true) (w : World) : Calls Try.prog 7 #[.agg #[.int .i64 r.kind, .int .i64 r.tx, .int .u16 r.mask, .int .u8 r.k0, .int .u8 r.k1, .int .u8 r.k2, .int .u8 r.k3, .bool r.oT, .int .i64 r.oN, .bool r.nT, .int .i64 r.nN], .int .i64 what] w fun e w' => e = .returned (.bool true) ∧ Below w.heap.size w w' := by
  have c0 : ∀ W, Calls Try.prog 8 #[] W fun e w' => e = .returned (.bool true) ∧ Below W.heap.size W w' := fun W => alive_any W
  have c1 : ∀ W, Calls Try.prog 18 #[.agg #[.int .i64 r.kind, .int .i64 r.tx, .int .u16 r.mask, .int .u8 r.k0, .int .u8 r.k1, .int .u8 r.k2, .int .u8 r.k3, .bool r.oT, .int .i64 r.oN, .bool r.nT, .int .i64 r.nN]] W fun e w' => e = .returned (.bool true) ∧ Below W.heap.size W w' := fun W => right_any r true hr W
  have c2 : ∀ W, Calls Try.prog 18 #[.agg #[.int .i64 r.kind, .int .i64 r.tx, .int .u16 r.mask, .int .u8 r.k0, .int .u8 r.k1, .int .u8 r.k2, .int .u8 r.k3, .bool true, .int .i64 0, .bool r.nT, .int .i64 r.nN]] W fun e w' => e = .returned (.bool false) ∧ Below W.heap.size W w' := fun W => right_any { r with oT := true, oN := 0 } false ((plain_2 r ok hr).trans (by simp [h1])) W
  have HB := Lib.hid (recBox_new w r)
  clear hr ok
  go_enter Try.func7, Try.ntmps7
  go_wp2_with fail
  (with_reducible refine (c0 _).mono ?_)
  rintro e w1 ⟨rfl, k1⟩
  have rb1 : RecBox w1 w.heap.size r := HB.out.below k1 (by simp)
  have kw1 : Below w.heap.size w w1 := ((Below.refl _ w).alloc (Nat.le_refl _) _).trans (k1.mono (by simp))
  clear HB k1 c0
  have mc0 : w1.cell? ⟨w.heap.size, 0, none⟩ = some (.int .i64 r.kind) := rb1.at_.c0
  have mc1 : w1.cell? ⟨w.heap.size, 1, none⟩ = some (.int .i64 r.tx) := rb1.at_.c1
  have mc2 : w1.cell? ⟨w.heap.size, 2, none⟩ = some (.int .u16 r.mask) := rb1.at_.c2
  have mc3 : w1.cell? ⟨w.heap.size, 3, none⟩ = some (.int .u8 r.k0) := rb1.at_.c3
  have mc4 : w1.cell? ⟨w.heap.size, 4, none⟩ = some (.int .u8 r.k1) := rb1.at_.c4
  have mc5 : w1.cell? ⟨w.heap.size, 5, none⟩ = some (.int .u8 r.k2) := rb1.at_.c5
  have mc6 : w1.cell? ⟨w.heap.size, 6, none⟩ = some (.int .u8 r.k3) := rb1.at_.c6
  have mc7 : w1.cell? ⟨w.heap.size, 7, none⟩ = some (.bool r.oT) := rb1.at_.c7
  have mc8 : w1.cell? ⟨w.heap.size, 8, none⟩ = some (.int .i64 r.oN) := rb1.at_.c8
  have mc9 : w1.cell? ⟨w.heap.size, 9, none⟩ = some (.bool r.nT) := rb1.at_.c9
  have mc10 : w1.cell? ⟨w.heap.size, 10, none⟩ = some (.int .i64 r.nN) := rb1.at_.c10
  go_wp2_with fail
  (with_reducible refine (c1 _).mono ?_)
  rintro e w2 ⟨rfl, k2⟩
  have rb2 := rb1.below k2 rb1.at_.lt
  have kw2 := below_more kw1 k2 (Nat.le_refl _)
  have hs2 := kw2.size
  clear rb1 k2 c1 kw1 mc0 mc1 mc2 mc3 mc4 mc5 mc6 mc7 mc8 mc9 mc10
  have mc0 : w2.cell? ⟨w.heap.size, 0, none⟩ = some (.int .i64 r.kind) := rb2.at_.c0
  have mc1 : w2.cell? ⟨w.heap.size, 1, none⟩ = some (.int .i64 r.tx) := rb2.at_.c1
  have mc2 : w2.cell? ⟨w.heap.size, 2, none⟩ = some (.int .u16 r.mask) := rb2.at_.c2
  have mc3 : w2.cell? ⟨w.heap.size, 3, none⟩ = some (.int .u8 r.k0) := rb2.at_.c3
  have mc4 : w2.cell? ⟨w.heap.size, 4, none⟩ = some (.int .u8 r.k1) := rb2.at_.c4
  have mc5 : w2.cell? ⟨w.heap.size, 5, none⟩ = some (.int .u8 r.k2) := rb2.at_.c5
  have mc6 : w2.cell? ⟨w.heap.size, 6, none⟩ = some (.int .u8 r.k3) := rb2.at_.c6
  have mc7 : w2.cell? ⟨w.heap.size, 7, none⟩ = some (.bool r.oT) := rb2.at_.c7
  have mc8 : w2.cell? ⟨w.heap.size, 8, none⟩ = some (.int .i64 r.oN) := rb2.at_.c8
  have mc9 : w2.cell? ⟨w.heap.size, 9, none⟩ = some (.bool r.nT) := rb2.at_.c9
  have mc10 : w2.cell? ⟨w.heap.size, 10, none⟩ = some (.int .i64 r.nN) := rb2.at_.c10
  go_wp2_with fail
  have rx : RecBox (w2.alloc (.cells #[.int .i64 r.kind, .int .i64 r.tx, .int .u16 r.mask, .int .u8 r.k0, .int .u8 r.k1, .int .u8 r.k2, .int .u8 r.k3, .bool true, .int .i64 0, .bool r.nT, .int .i64 r.nN] 32)) w2.heap.size { r with oT := true, oN := 0 } := recBox_new w2 { r with oT := true, oN := 0 }
  have rk := rb2.below ((Below.refl w2.heap.size w2).alloc (Nat.le_refl _) (.cells #[.int .i64 r.kind, .int .i64 r.tx, .int .u16 r.mask, .int .u8 r.k0, .int .u8 r.k1, .int .u8 r.k2, .int .u8 r.k3, .bool true, .int .i64 0, .bool r.nT, .int .i64 r.nN] 32)) rb2.at_.lt
  have kw3 : Below w.heap.size w (w2.alloc (.cells #[.int .i64 r.kind, .int .i64 r.tx, .int .u16 r.mask, .int .u8 r.k0, .int .u8 r.k1, .int .u8 r.k2, .int .u8 r.k3, .bool true, .int .i64 0, .bool r.nT, .int .i64 r.nN] 32)) := kw2.alloc hs2 _
  clear kw2 hs2 rb2 mc0 mc1 mc2 mc3 mc4 mc5 mc6 mc7 mc8 mc9 mc10
  generalize (w2.alloc (.cells #[.int .i64 r.kind, .int .i64 r.tx, .int .u16 r.mask, .int .u8 r.k0, .int .u8 r.k1, .int .u8 r.k2, .int .u8 r.k3, .bool true, .int .i64 0, .bool r.nT, .int .i64 r.nN] 32)) = w3 at *
  generalize w2.heap.size = m at *
  have kS : ∀ W, Below w3.heap.size w3 W → (W.cell? ⟨m, 0, none⟩ = some (.int .i64 r.kind) ∧ W.cell? ⟨m, 1, none⟩ = some (.int .i64 r.tx) ∧ W.cell? ⟨m, 2, none⟩ = some (.int .u16 r.mask) ∧ W.cell? ⟨m, 3, none⟩ = some (.int .u8 r.k0) ∧ W.cell? ⟨m, 4, none⟩ = some (.int .u8 r.k1) ∧ W.cell? ⟨m, 5, none⟩ = some (.int .u8 r.k2) ∧ W.cell? ⟨m, 6, none⟩ = some (.int .u8 r.k3) ∧ W.cell? ⟨m, 7, none⟩ = some (.bool true) ∧ W.cell? ⟨m, 8, none⟩ = some (.int .i64 0) ∧ W.cell? ⟨m, 9, none⟩ = some (.bool r.nT) ∧ W.cell? ⟨m, 10, none⟩ = some (.int .i64 r.nN) ∧ W.cell? ⟨w.heap.size, 0, none⟩ = some (.int .i64 r.kind) ∧ Below w3.heap.size w3 W) := fun W hb => by
    have r' := rx.below hb rx.at_.lt
    have q' := rk.below hb rk.at_.lt
    exact ⟨r'.at_.c0, r'.at_.c1, r'.at_.c2, r'.at_.c3, r'.at_.c4, r'.at_.c5, r'.at_.c6, r'.at_.c7, r'.at_.c8, r'.at_.c9, r'.at_.c10, q'.at_.c0, hb⟩
  have kd : Below w3.heap.size w3 w3.drew := (Below.refl _ _).drew
  have KS := Lib.hid kS
  clear kS rx rk
  go_region_held3 (fun w' => (w'.cell? ⟨m, 0, none⟩ = some (.int .i64 r.kind) ∧ w'.cell? ⟨m, 1, none⟩ = some (.int .i64 r.tx) ∧ w'.cell? ⟨m, 2, none⟩ = some (.int .u16 r.mask) ∧ w'.cell? ⟨m, 3, none⟩ = some (.int .u8 r.k0) ∧ w'.cell? ⟨m, 4, none⟩ = some (.int .u8 r.k1) ∧ w'.cell? ⟨m, 5, none⟩ = some (.int .u8 r.k2) ∧ w'.cell? ⟨m, 6, none⟩ = some (.int .u8 r.k3) ∧ w'.cell? ⟨m, 7, none⟩ = some (.bool true) ∧ w'.cell? ⟨m, 8, none⟩ = some (.int .i64 0) ∧ w'.cell? ⟨m, 9, none⟩ = some (.bool r.nT) ∧ w'.cell? ⟨m, 10, none⟩ = some (.int .i64 r.nN) ∧ w'.cell? ⟨w.heap.size, 0, none⟩ = some (.int .i64 r.kind) ∧ Below w3.heap.size w3 w')) (first | assumption | exact KS.out _ kd | exact KS.out _ z4) ((go_at_call 18; (with_reducible refine (c2 _).mono ?_); rintro e w4 ⟨rfl, k4⟩; have z4 : Below w3.heap.size w3 w4 := kd.trans k4))
  go_wp2
  go_ret
  exact ⟨rfl, below_more kw3 z4 (Nat.le_refl _)⟩
set_option maxRecDepth 100000 in
set_option maxHeartbeats 1000000 in
theorem rp_o_3 (r : RecD) (ok : okR r) (hr : rightB r = true) (h1 : (r.kind == 1) = false) (h2 : (r.kind == 2) = false) (h7 : (r.kind == 7) = false) (h8 : (r.kind == 8) = false) (what : Int) (e0 : (what == 0) = false) (e1 : (what == 1) = false) (e2 : (what == 2) = false) (e3 : (what == 3) = true) (w : World) : Calls Try.prog 7 #[.agg #[.int .i64 r.kind, .int .i64 r.tx, .int .u16 r.mask, .int .u8 r.k0, .int .u8 r.k1, .int .u8 r.k2, .int .u8 r.k3, .bool r.oT, .int .i64 r.oN, .bool r.nT, .int .i64 r.nN], .int .i64 what] w fun e w' => e = .returned (.bool true) ∧ Below w.heap.size w w' := by
  have c0 : ∀ W, Calls Try.prog 8 #[] W fun e w' => e = .returned (.bool true) ∧ Below W.heap.size W w' := fun W => alive_any W
  have c1 : ∀ W, Calls Try.prog 18 #[.agg #[.int .i64 r.kind, .int .i64 r.tx, .int .u16 r.mask, .int .u8 r.k0, .int .u8 r.k1, .int .u8 r.k2, .int .u8 r.k3, .bool r.oT, .int .i64 r.oN, .bool r.nT, .int .i64 r.nN]] W fun e w' => e = .returned (.bool true) ∧ Below W.heap.size W w' := fun W => right_any r true hr W
  have c2 : ∀ W, Calls Try.prog 18 #[.agg #[.int .i64 r.kind, .int .i64 r.tx, .int .u16 r.mask, .int .u8 r.k0, .int .u8 r.k1, .int .u8 r.k2, .int .u8 r.k3, .bool r.oT, .int .i64 r.oN, .bool false, .int .i64 1]] W fun e w' => e = .returned (.bool false) ∧ Below W.heap.size W w' := fun W => right_any { r with nT := false, nN := 1 } false (plain_3 r ok hr) W
  have HB := Lib.hid (recBox_new w r)
  clear hr ok
  go_enter Try.func7, Try.ntmps7
  go_wp2_with fail
  (with_reducible refine (c0 _).mono ?_)
  rintro e w1 ⟨rfl, k1⟩
  have rb1 : RecBox w1 w.heap.size r := HB.out.below k1 (by simp)
  have kw1 : Below w.heap.size w w1 := ((Below.refl _ w).alloc (Nat.le_refl _) _).trans (k1.mono (by simp))
  clear HB k1 c0
  have mc0 : w1.cell? ⟨w.heap.size, 0, none⟩ = some (.int .i64 r.kind) := rb1.at_.c0
  have mc1 : w1.cell? ⟨w.heap.size, 1, none⟩ = some (.int .i64 r.tx) := rb1.at_.c1
  have mc2 : w1.cell? ⟨w.heap.size, 2, none⟩ = some (.int .u16 r.mask) := rb1.at_.c2
  have mc3 : w1.cell? ⟨w.heap.size, 3, none⟩ = some (.int .u8 r.k0) := rb1.at_.c3
  have mc4 : w1.cell? ⟨w.heap.size, 4, none⟩ = some (.int .u8 r.k1) := rb1.at_.c4
  have mc5 : w1.cell? ⟨w.heap.size, 5, none⟩ = some (.int .u8 r.k2) := rb1.at_.c5
  have mc6 : w1.cell? ⟨w.heap.size, 6, none⟩ = some (.int .u8 r.k3) := rb1.at_.c6
  have mc7 : w1.cell? ⟨w.heap.size, 7, none⟩ = some (.bool r.oT) := rb1.at_.c7
  have mc8 : w1.cell? ⟨w.heap.size, 8, none⟩ = some (.int .i64 r.oN) := rb1.at_.c8
  have mc9 : w1.cell? ⟨w.heap.size, 9, none⟩ = some (.bool r.nT) := rb1.at_.c9
  have mc10 : w1.cell? ⟨w.heap.size, 10, none⟩ = some (.int .i64 r.nN) := rb1.at_.c10
  go_wp2_with fail
  (with_reducible refine (c1 _).mono ?_)
  rintro e w2 ⟨rfl, k2⟩
  have rb2 := rb1.below k2 rb1.at_.lt
  have kw2 := below_more kw1 k2 (Nat.le_refl _)
  have hs2 := kw2.size
  clear rb1 k2 c1 kw1 mc0 mc1 mc2 mc3 mc4 mc5 mc6 mc7 mc8 mc9 mc10
  have mc0 : w2.cell? ⟨w.heap.size, 0, none⟩ = some (.int .i64 r.kind) := rb2.at_.c0
  have mc1 : w2.cell? ⟨w.heap.size, 1, none⟩ = some (.int .i64 r.tx) := rb2.at_.c1
  have mc2 : w2.cell? ⟨w.heap.size, 2, none⟩ = some (.int .u16 r.mask) := rb2.at_.c2
  have mc3 : w2.cell? ⟨w.heap.size, 3, none⟩ = some (.int .u8 r.k0) := rb2.at_.c3
  have mc4 : w2.cell? ⟨w.heap.size, 4, none⟩ = some (.int .u8 r.k1) := rb2.at_.c4
  have mc5 : w2.cell? ⟨w.heap.size, 5, none⟩ = some (.int .u8 r.k2) := rb2.at_.c5
  have mc6 : w2.cell? ⟨w.heap.size, 6, none⟩ = some (.int .u8 r.k3) := rb2.at_.c6
  have mc7 : w2.cell? ⟨w.heap.size, 7, none⟩ = some (.bool r.oT) := rb2.at_.c7
  have mc8 : w2.cell? ⟨w.heap.size, 8, none⟩ = some (.int .i64 r.oN) := rb2.at_.c8
  have mc9 : w2.cell? ⟨w.heap.size, 9, none⟩ = some (.bool r.nT) := rb2.at_.c9
  have mc10 : w2.cell? ⟨w.heap.size, 10, none⟩ = some (.int .i64 r.nN) := rb2.at_.c10
  go_wp2_with fail
  (with_reducible refine (c2 _).mono ?_)
  rintro e w3 ⟨rfl, k3⟩
  go_wp2
  go_ret
  refine ⟨rfl, below_more ?_ k3 (Nat.le_refl _)⟩
  repeat first | with_reducible exact kw2 | with_reducible refine below_sc ?_ hs2 _ | with_reducible refine Below.alloc ?_ hs2 _
set_option maxRecDepth 100000 in
set_option maxHeartbeats 1000000 in
theorem rp_o_4 (r : RecD) (ok : okR r) (hr : rightB r = true) (h1 : (r.kind == 1) = false) (h2 : (r.kind == 2) = false) (h7 : (r.kind == 7) = false) (h8 : (r.kind == 8) = false) (what : Int) (e0 : (what == 0) = false) (e1 : (what == 1) = false) (e2 : (what == 2) = false) (e3 : (what == 3) = false) (w : World) : Calls Try.prog 7 #[.agg #[.int .i64 r.kind, .int .i64 r.tx, .int .u16 r.mask, .int .u8 r.k0, .int .u8 r.k1, .int .u8 r.k2, .int .u8 r.k3, .bool r.oT, .int .i64 r.oN, .bool r.nT, .int .i64 r.nN], .int .i64 what] w fun e w' => e = .returned (.bool true) ∧ Below w.heap.size w w' := by
  have c0 : ∀ W, Calls Try.prog 8 #[] W fun e w' => e = .returned (.bool true) ∧ Below W.heap.size W w' := fun W => alive_any W
  have c1 : ∀ W, Calls Try.prog 18 #[.agg #[.int .i64 r.kind, .int .i64 r.tx, .int .u16 r.mask, .int .u8 r.k0, .int .u8 r.k1, .int .u8 r.k2, .int .u8 r.k3, .bool r.oT, .int .i64 r.oN, .bool r.nT, .int .i64 r.nN]] W fun e w' => e = .returned (.bool true) ∧ Below W.heap.size W w' := fun W => right_any r true hr W
  have c2 : ∀ W, Calls Try.prog 18 #[.agg #[.int .i64 r.kind, .int .i64 0, .int .u16 r.mask, .int .u8 r.k0, .int .u8 r.k1, .int .u8 r.k2, .int .u8 r.k3, .bool r.oT, .int .i64 r.oN, .bool r.nT, .int .i64 r.nN]] W fun e w' => e = .returned (.bool false) ∧ Below W.heap.size W w' := fun W => right_any { r with tx := 0 } false ((plain_4 r ok hr).trans (by simp [h7, h8])) W
  have HB := Lib.hid (recBox_new w r)
  clear hr ok
  go_enter Try.func7, Try.ntmps7
  go_wp2_with fail
  (with_reducible refine (c0 _).mono ?_)
  rintro e w1 ⟨rfl, k1⟩
  have rb1 : RecBox w1 w.heap.size r := HB.out.below k1 (by simp)
  have kw1 : Below w.heap.size w w1 := ((Below.refl _ w).alloc (Nat.le_refl _) _).trans (k1.mono (by simp))
  clear HB k1 c0
  have mc0 : w1.cell? ⟨w.heap.size, 0, none⟩ = some (.int .i64 r.kind) := rb1.at_.c0
  have mc1 : w1.cell? ⟨w.heap.size, 1, none⟩ = some (.int .i64 r.tx) := rb1.at_.c1
  have mc2 : w1.cell? ⟨w.heap.size, 2, none⟩ = some (.int .u16 r.mask) := rb1.at_.c2
  have mc3 : w1.cell? ⟨w.heap.size, 3, none⟩ = some (.int .u8 r.k0) := rb1.at_.c3
  have mc4 : w1.cell? ⟨w.heap.size, 4, none⟩ = some (.int .u8 r.k1) := rb1.at_.c4
  have mc5 : w1.cell? ⟨w.heap.size, 5, none⟩ = some (.int .u8 r.k2) := rb1.at_.c5
  have mc6 : w1.cell? ⟨w.heap.size, 6, none⟩ = some (.int .u8 r.k3) := rb1.at_.c6
  have mc7 : w1.cell? ⟨w.heap.size, 7, none⟩ = some (.bool r.oT) := rb1.at_.c7
  have mc8 : w1.cell? ⟨w.heap.size, 8, none⟩ = some (.int .i64 r.oN) := rb1.at_.c8
  have mc9 : w1.cell? ⟨w.heap.size, 9, none⟩ = some (.bool r.nT) := rb1.at_.c9
  have mc10 : w1.cell? ⟨w.heap.size, 10, none⟩ = some (.int .i64 r.nN) := rb1.at_.c10
  go_wp2_with fail
  (with_reducible refine (c1 _).mono ?_)
  rintro e w2 ⟨rfl, k2⟩
  have rb2 := rb1.below k2 rb1.at_.lt
  have kw2 := below_more kw1 k2 (Nat.le_refl _)
  have hs2 := kw2.size
  clear rb1 k2 c1 kw1 mc0 mc1 mc2 mc3 mc4 mc5 mc6 mc7 mc8 mc9 mc10
  have mc0 : w2.cell? ⟨w.heap.size, 0, none⟩ = some (.int .i64 r.kind) := rb2.at_.c0
  have mc1 : w2.cell? ⟨w.heap.size, 1, none⟩ = some (.int .i64 r.tx) := rb2.at_.c1
  have mc2 : w2.cell? ⟨w.heap.size, 2, none⟩ = some (.int .u16 r.mask) := rb2.at_.c2
  have mc3 : w2.cell? ⟨w.heap.size, 3, none⟩ = some (.int .u8 r.k0) := rb2.at_.c3
  have mc4 : w2.cell? ⟨w.heap.size, 4, none⟩ = some (.int .u8 r.k1) := rb2.at_.c4
  have mc5 : w2.cell? ⟨w.heap.size, 5, none⟩ = some (.int .u8 r.k2) := rb2.at_.c5
  have mc6 : w2.cell? ⟨w.heap.size, 6, none⟩ = some (.int .u8 r.k3) := rb2.at_.c6
  have mc7 : w2.cell? ⟨w.heap.size, 7, none⟩ = some (.bool r.oT) := rb2.at_.c7
  have mc8 : w2.cell? ⟨w.heap.size, 8, none⟩ = some (.int .i64 r.oN) := rb2.at_.c8
  have mc9 : w2.cell? ⟨w.heap.size, 9, none⟩ = some (.bool r.nT) := rb2.at_.c9
  have mc10 : w2.cell? ⟨w.heap.size, 10, none⟩ = some (.int .i64 r.nN) := rb2.at_.c10
  go_wp2_with fail
  have rx : RecBox (w2.alloc (.cells #[.int .i64 r.kind, .int .i64 0, .int .u16 r.mask, .int .u8 r.k0, .int .u8 r.k1, .int .u8 r.k2, .int .u8 r.k3, .bool r.oT, .int .i64 r.oN, .bool r.nT, .int .i64 r.nN] 32)) w2.heap.size { r with tx := 0 } := recBox_new w2 { r with tx := 0 }
  have rk := rb2.below ((Below.refl w2.heap.size w2).alloc (Nat.le_refl _) (.cells #[.int .i64 r.kind, .int .i64 0, .int .u16 r.mask, .int .u8 r.k0, .int .u8 r.k1, .int .u8 r.k2, .int .u8 r.k3, .bool r.oT, .int .i64 r.oN, .bool r.nT, .int .i64 r.nN] 32)) rb2.at_.lt
  have kw3 : Below w.heap.size w (w2.alloc (.cells #[.int .i64 r.kind, .int .i64 0, .int .u16 r.mask, .int .u8 r.k0, .int .u8 r.k1, .int .u8 r.k2, .int .u8 r.k3, .bool r.oT, .int .i64 r.oN, .bool r.nT, .int .i64 r.nN] 32)) := kw2.alloc hs2 _
  clear kw2 hs2 rb2 mc0 mc1 mc2 mc3 mc4 mc5 mc6 mc7 mc8 mc9 mc10
  generalize (w2.alloc (.cells #[.int .i64 r.kind, .int .i64 0, .int .u16 r.mask, .int .u8 r.k0, .int .u8 r.k1, .int .u8 r.k2, .int .u8 r.k3, .bool r.oT, .int .i64 r.oN, .bool r.nT, .int .i64 r.nN] 32)) = w3 at *
  generalize w2.heap.size = m at *
  have kS : ∀ W, Below w3.heap.size w3 W → (W.cell? ⟨m, 0, none⟩ = some (.int .i64 r.kind) ∧ W.cell? ⟨m, 1, none⟩ = some (.int .i64 0) ∧ W.cell? ⟨m, 2, none⟩ = some (.int .u16 r.mask) ∧ W.cell? ⟨m, 3, none⟩ = some (.int .u8 r.k0) ∧ W.cell? ⟨m, 4, none⟩ = some (.int .u8 r.k1) ∧ W.cell? ⟨m, 5, none⟩ = some (.int .u8 r.k2) ∧ W.cell? ⟨m, 6, none⟩ = some (.int .u8 r.k3) ∧ W.cell? ⟨m, 7, none⟩ = some (.bool r.oT) ∧ W.cell? ⟨m, 8, none⟩ = some (.int .i64 r.oN) ∧ W.cell? ⟨m, 9, none⟩ = some (.bool r.nT) ∧ W.cell? ⟨m, 10, none⟩ = some (.int .i64 r.nN) ∧ W.cell? ⟨w.heap.size, 0, none⟩ = some (.int .i64 r.kind) ∧ Below w3.heap.size w3 W) := fun W hb => by
    have r' := rx.below hb rx.at_.lt
    have q' := rk.below hb rk.at_.lt
    exact ⟨r'.at_.c0, r'.at_.c1, r'.at_.c2, r'.at_.c3, r'.at_.c4, r'.at_.c5, r'.at_.c6, r'.at_.c7, r'.at_.c8, r'.at_.c9, r'.at_.c10, q'.at_.c0, hb⟩
  have kd : Below w3.heap.size w3 w3.drew := (Below.refl _ _).drew
  have KS := Lib.hid kS
  clear kS rx rk
  go_region_held3 (fun w' => (w'.cell? ⟨m, 0, none⟩ = some (.int .i64 r.kind) ∧ w'.cell? ⟨m, 1, none⟩ = some (.int .i64 0) ∧ w'.cell? ⟨m, 2, none⟩ = some (.int .u16 r.mask) ∧ w'.cell? ⟨m, 3, none⟩ = some (.int .u8 r.k0) ∧ w'.cell? ⟨m, 4, none⟩ = some (.int .u8 r.k1) ∧ w'.cell? ⟨m, 5, none⟩ = some (.int .u8 r.k2) ∧ w'.cell? ⟨m, 6, none⟩ = some (.int .u8 r.k3) ∧ w'.cell? ⟨m, 7, none⟩ = some (.bool r.oT) ∧ w'.cell? ⟨m, 8, none⟩ = some (.int .i64 r.oN) ∧ w'.cell? ⟨m, 9, none⟩ = some (.bool r.nT) ∧ w'.cell? ⟨m, 10, none⟩ = some (.int .i64 r.nN) ∧ w'.cell? ⟨w.heap.size, 0, none⟩ = some (.int .i64 r.kind) ∧ Below w3.heap.size w3 w')) (first | assumption | exact KS.out _ kd | exact KS.out _ z4) ((go_at_call 18; (with_reducible refine (c2 _).mono ?_); rintro e w4 ⟨rfl, k4⟩; have z4 : Below w3.heap.size w3 w4 := kd.trans k4))
  go_wp2
  go_ret
  exact ⟨rfl, below_more kw3 z4 (Nat.le_refl _)⟩
set_option maxRecDepth 100000 in
set_option maxHeartbeats 1000000 in
theorem rp_no (r : RecD) (hr : rightB r = false) (what : Int) (w : World) : Calls Try.prog 7 #[.agg #[.int .i64 r.kind, .int .i64 r.tx, .int .u16 r.mask, .int .u8 r.k0, .int .u8 r.k1, .int .u8 r.k2, .int .u8 r.k3, .bool r.oT, .int .i64 r.oN, .bool r.nT, .int .i64 r.nN], .int .i64 what] w fun e w' => e = .returned (.bool true) ∧ Below w.heap.size w w' := by
  have c0 : ∀ W, Calls Try.prog 8 #[] W fun e w' => e = .returned (.bool true) ∧ Below W.heap.size W w' := fun W => alive_any W
  have c1 : ∀ W, Calls Try.prog 18 #[.agg #[.int .i64 r.kind, .int .i64 r.tx, .int .u16 r.mask, .int .u8 r.k0, .int .u8 r.k1, .int .u8 r.k2, .int .u8 r.k3, .bool r.oT, .int .i64 r.oN, .bool r.nT, .int .i64 r.nN]] W fun e w' => e = .returned (.bool false) ∧ Below W.heap.size W w' := fun W => right_any r false hr W
  have HB := Lib.hid (recBox_new w r)
  go_enter Try.func7, Try.ntmps7
  go_wp2_with fail
  (with_reducible refine (c0 _).mono ?_)
  rintro e w1 ⟨rfl, k1⟩
  have rb1 : RecBox w1 w.heap.size r := HB.out.below k1 (by simp)
  have kw1 : Below w.heap.size w w1 := ((Below.refl _ w).alloc (Nat.le_refl _) _).trans (k1.mono (by simp))
  clear HB k1 c0
  have mc0 : w1.cell? ⟨w.heap.size, 0, none⟩ = some (.int .i64 r.kind) := rb1.at_.c0
  have mc1 : w1.cell? ⟨w.heap.size, 1, none⟩ = some (.int .i64 r.tx) := rb1.at_.c1
  have mc2 : w1.cell? ⟨w.heap.size, 2, none⟩ = some (.int .u16 r.mask) := rb1.at_.c2
  have mc3 : w1.cell? ⟨w.heap.size, 3, none⟩ = some (.int .u8 r.k0) := rb1.at_.c3
  have mc4 : w1.cell? ⟨w.heap.size, 4, none⟩ = some (.int .u8 r.k1) := rb1.at_.c4
  have mc5 : w1.cell? ⟨w.heap.size, 5, none⟩ = some (.int .u8 r.k2) := rb1.at_.c5
  have mc6 : w1.cell? ⟨w.heap.size, 6, none⟩ = some (.int .u8 r.k3) := rb1.at_.c6
  have mc7 : w1.cell? ⟨w.heap.size, 7, none⟩ = some (.bool r.oT) := rb1.at_.c7
  have mc8 : w1.cell? ⟨w.heap.size, 8, none⟩ = some (.int .i64 r.oN) := rb1.at_.c8
  have mc9 : w1.cell? ⟨w.heap.size, 9, none⟩ = some (.bool r.nT) := rb1.at_.c9
  have mc10 : w1.cell? ⟨w.heap.size, 10, none⟩ = some (.int .i64 r.nN) := rb1.at_.c10
  go_wp2_with fail
  (with_reducible refine (c1 _).mono ?_)
  rintro e w2 ⟨rfl, k2⟩
  have kw2 := below_more kw1 k2 (Nat.le_refl _)
  go_wp2
  go_ret
  exact ⟨rfl, kw2⟩
theorem rp_what (what : Int) : ((what == 0) = true) ∨ ((what == 0) = false ∧ (what == 1) = true) ∨ ((what == 0) = false ∧ (what == 1) = false ∧ (what == 2) = true) ∨ ((what == 0) = false ∧ (what == 1) = false ∧ (what == 2) = false ∧ (what == 3) = true) ∨ ((what == 0) = false ∧ (what == 1) = false ∧ (what == 2) = false ∧ (what == 3) = false) := by
  cases (what == 0) <;> cases (what == 1) <;> cases (what == 2) <;> cases (what == 3) <;> simp
/-- RecPlain returns true, for every input. -/
theorem recPlain_any (r : RecD) (ok : okR r) (what : Int) (w : World) : Calls Try.prog 7 #[recV r, .int .i64 what] w fun e w' => e = .returned (.bool true) ∧ Below w.heap.size w w' := by
  rw [recV_eq]
  cases hr : rightB r with
  | false => exact rp_no r hr what w
  | true =>
    have h8 := kind8 r hr
    by_cases c1 : r.kind = 1
    · rcases rp_what what with e0 | ⟨e0, e1⟩ | ⟨e0, e1, e2⟩ | ⟨e0, e1, e2, e3⟩ | ⟨e0, e1, e2, e3⟩
      · exact rp_1_0 r ok hr (by simp [c1]) (by simp [c1]) (by simp [c1]) (by simp [c1]) what e0 w
      · exact rp_1_1 r ok hr (by simp [c1]) (by simp [c1]) (by simp [c1]) (by simp [c1]) what e0 e1 w
      · exact rp_1_2 r ok hr (by simp [c1]) (by simp [c1]) (by simp [c1]) (by simp [c1]) what e0 e1 e2 w
      · exact rp_1_3 r ok hr (by simp [c1]) (by simp [c1]) (by simp [c1]) (by simp [c1]) what e0 e1 e2 e3 w
      · exact rp_1_4 r ok hr (by simp [c1]) (by simp [c1]) (by simp [c1]) (by simp [c1]) what e0 e1 e2 e3 w
    by_cases c2 : r.kind = 2
    · rcases rp_what what with e0 | ⟨e0, e1⟩ | ⟨e0, e1, e2⟩ | ⟨e0, e1, e2, e3⟩ | ⟨e0, e1, e2, e3⟩
      · exact rp_2_0 r ok hr (by simp [c2]) (by simp [c2]) (by simp [c2]) (by simp [c2]) what e0 w
      · exact rp_2_1 r ok hr (by simp [c2]) (by simp [c2]) (by simp [c2]) (by simp [c2]) what e0 e1 w
      · exact rp_2_2 r ok hr (by simp [c2]) (by simp [c2]) (by simp [c2]) (by simp [c2]) what e0 e1 e2 w
      · exact rp_2_3 r ok hr (by simp [c2]) (by simp [c2]) (by simp [c2]) (by simp [c2]) what e0 e1 e2 e3 w
      · exact rp_2_4 r ok hr (by simp [c2]) (by simp [c2]) (by simp [c2]) (by simp [c2]) what e0 e1 e2 e3 w
    by_cases c7 : r.kind = 7
    · rcases rp_what what with e0 | ⟨e0, e1⟩ | ⟨e0, e1, e2⟩ | ⟨e0, e1, e2, e3⟩ | ⟨e0, e1, e2, e3⟩
      · exact rp_7_0 r ok hr (by simp [c7]) (by simp [c7]) (by simp [c7]) (by simp [c7]) what e0 w
      · exact rp_7_1 r ok hr (by simp [c7]) (by simp [c7]) (by simp [c7]) (by simp [c7]) what e0 e1 w
      · exact rp_7_2 r ok hr (by simp [c7]) (by simp [c7]) (by simp [c7]) (by simp [c7]) what e0 e1 e2 w
      · exact rp_7_3 r ok hr (by simp [c7]) (by simp [c7]) (by simp [c7]) (by simp [c7]) what e0 e1 e2 e3 w
      · exact rp_7_4 r ok hr (by simp [c7]) (by simp [c7]) (by simp [c7]) (by simp [c7]) what e0 e1 e2 e3 w
    by_cases c8 : r.kind = 8
    · rcases rp_what what with e0 | ⟨e0, e1⟩ | ⟨e0, e1, e2⟩ | ⟨e0, e1, e2, e3⟩ | ⟨e0, e1, e2, e3⟩
      · exact rp_8_0 r ok hr (by simp [c8]) (by simp [c8]) (by simp [c8]) (by simp [c8]) what e0 w
      · exact rp_8_1 r ok hr (by simp [c8]) (by simp [c8]) (by simp [c8]) (by simp [c8]) what e0 e1 w
      · exact rp_8_2 r ok hr (by simp [c8]) (by simp [c8]) (by simp [c8]) (by simp [c8]) what e0 e1 e2 w
      · exact rp_8_3 r ok hr (by simp [c8]) (by simp [c8]) (by simp [c8]) (by simp [c8]) what e0 e1 e2 e3 w
      · exact rp_8_4 r ok hr (by simp [c8]) (by simp [c8]) (by simp [c8]) (by simp [c8]) what e0 e1 e2 e3 w
    · rcases rp_what what with e0 | ⟨e0, e1⟩ | ⟨e0, e1, e2⟩ | ⟨e0, e1, e2, e3⟩ | ⟨e0, e1, e2, e3⟩
      · exact rp_o_0 r ok hr (by simp [c1]) (by simp [c2]) (by simp [c7]) (by simp [c8]) what e0 w
      · exact rp_o_1 r ok hr (by simp [c1]) (by simp [c2]) (by simp [c7]) (by simp [c8]) what e0 e1 w
      · exact rp_o_2 r ok hr (by simp [c1]) (by simp [c2]) (by simp [c7]) (by simp [c8]) what e0 e1 e2 w
      · exact rp_o_3 r ok hr (by simp [c1]) (by simp [c2]) (by simp [c7]) (by simp [c8]) what e0 e1 e2 e3 w
      · exact rp_o_4 r ok hr (by simp [c1]) (by simp [c2]) (by simp [c7]) (by simp [c8]) what e0 e1 e2 e3 w
end Go.Proofs.Ytlohogcddelekaa
