/- The document's own Encode: a record's bytes, for every record. -/
import Derived.Test.YtlohogcddelekaaFb
import Derived.Test.YtlohogcddelekaaEu
namespace Go.Proofs.Ytlohogcddelekaa
open Go.RowKit Go.Deep
set_option linter.unusedVariables false

theorem u8wrap (n : Nat) : IntKind.u8.wrap (n : Int) = ((n % 256 : Nat) : Int) := by simp [IntKind.wrap, IntKind.signed, IntKind.bits]
theorem head0 (h : Nat) : IntKind.u8.wrap ((h : Int) % 256) = ((byteAt h 0 : Nat) : Int) := by
  rw [show ((h : Int) % 256) = ((h % 256 : Nat) : Int) by simp, u8wrap]; simp [byteAt]
theorem head1 (h : Nat) : IntKind.u8.wrap ((h : Int) / 256 % 256) = ((byteAt h 1 : Nat) : Int) := by
  rw [show ((h : Int) / 256 % 256) = ((h / 256 % 256 : Nat) : Int) by simp, u8wrap]; simp [byteAt]
theorem head2 (h : Nat) (hh : h < 16777216) : IntKind.u8.wrap ((h : Int) / 65536) = ((byteAt h 2 : Nat) : Int) := by
  rw [show ((h : Int) / 65536) = ((h / 65536 : Nat) : Int) by simp, u8wrap]; simp [byteAt]
theorem mask1 (h : Nat) (hh : h < 65536) : IntKind.u8.wrap ((h : Int) / 256) = ((byteAt h 1 : Nat) : Int) := by
  rw [show ((h : Int) / 256) = ((h / 256 : Nat) : Int) by simp, u8wrap]; simp [byteAt]
theorem bytes_three (h : Nat) : bytesL h 3 = [((byteAt h 0 : Nat) : Int), ((byteAt h 1 : Nat) : Int), ((byteAt h 2 : Nat) : Int)] := by simp [bytesL, List.range_succ]
theorem bytes_two (h : Nat) : bytesL h 2 = [((byteAt h 0 : Nat) : Int), ((byteAt h 1 : Nat) : Int)] := by simp [bytesL, List.range_succ]
theorem owns_lit (w : World) (zs : List Int) (C : Array Value := (zs.map (Value.int .u8)).toArray) (hC : C = (zs.map (Value.int .u8)).toArray := by rfl) (hl : zs.length ≤ 10000 := by simp) : Owns w.heap.size (w.alloc (.cells C 5)) (.slice (some ⟨w.heap.size, 0, none⟩) zs.length zs.length) zs := by
  subst hC
  exact ⟨by simp, .inr ⟨w.heap.size, zs.length, _, rfl, Nat.le_refl _, heap_alloc_new w _, Nat.le_refl _, by simp only [maxLen]; omega, by simp, by simp; exact List.take_of_length_le (by simp)⟩⟩
set_option maxRecDepth 100000 in
set_option maxHeartbeats 2000000 in
theorem refEnc_plain (r : RecD) (hr : rightB r = true) (ok : okR r) (h2 : (r.kind == 2) = false) (h8 : (r.kind == 8) = false) (h1 : (r.kind == 1) = false) (h7 : (r.kind == 7) = false) (n1 : (r.kind != 1) = true) (n7 : (r.kind != 7) = true) (w : World) : Calls Try.prog 17 #[.agg #[.int .i64 r.kind, .int .i64 r.tx, .int .u16 r.mask, .int .u8 r.k0, .int .u8 r.k1, .int .u8 r.k2, .int .u8 r.k3, .bool r.oT, .int .i64 r.oN, .bool r.nT, .int .i64 r.nN]] w (EncSays r w) := by
  have hbd := right_bd r hr
  have hh := headN_lt r hr
  have hw : r.kind - 1 + 8 * r.tx = ((headN r : Nat) : Int) := by unfold headN; omega
  have c0 : ∀ W, Calls Try.prog 19 #[.agg #[.int .i64 r.kind, .int .i64 r.tx, .int .u16 r.mask, .int .u8 r.k0, .int .u8 r.k1, .int .u8 r.k2, .int .u8 r.k3, .bool r.oT, .int .i64 r.oN, .bool r.nT, .int .i64 r.nN]] W fun e w' => e = .returned (.bool true) ∧ Below W.heap.size W w' := fun W => refRight_any r true hr W
  have he : encL r = bytesL (headN r) 3 := by
    simp at h2 h8 h1 h7
    simp [encL, tailL, h2, h8, h1, h7]
  unfold EncSays
  rw [he]
  have HB := Lib.hid (recBox_new w r)
  obtain ⟨hbd1, hbd2, hbd3, hbd4⟩ := hbd
  generalize headN r = h at *
  have b0 := head0 h
  have b1 := head1 h
  have b2 := head2 h hh
  rw [bytes_three h]
  generalize byteAt h 0 = y0 at *
  generalize byteAt h 1 = y1 at *
  generalize byteAt h 2 = y2 at *
  clear hr ok he
  go_enter Try.func17, Try.ntmps17
  go_wp2_with fail
  (with_reducible refine (c0 _).mono ?_)
  rintro e w1 ⟨rfl, k1⟩
  have rb1 : RecBox w1 w.heap.size r := HB.out.below k1 (by simp)
  have kw1 : Below w.heap.size w w1 := ((Below.refl _ w).alloc (Nat.le_refl _) _).trans (k1.mono (by simp))
  have hs1 := rb1.at_.lt
  clear HB k1 c0
  have q0 : w1.cell? ⟨w.heap.size, 0, none⟩ = some (.int .i64 r.kind) := rb1.at_.c0
  have q1 : w1.cell? ⟨w.heap.size, 1, none⟩ = some (.int .i64 r.tx) := rb1.at_.c1
  have q2 : w1.cell? ⟨w.heap.size, 2, none⟩ = some (.int .u16 r.mask) := rb1.at_.c2
  have q3 : w1.cell? ⟨w.heap.size, 3, none⟩ = some (.int .u8 r.k0) := rb1.at_.c3
  have q4 : w1.cell? ⟨w.heap.size, 4, none⟩ = some (.int .u8 r.k1) := rb1.at_.c4
  have q5 : w1.cell? ⟨w.heap.size, 5, none⟩ = some (.int .u8 r.k2) := rb1.at_.c5
  have q6 : w1.cell? ⟨w.heap.size, 6, none⟩ = some (.int .u8 r.k3) := rb1.at_.c6
  have q7 : w1.cell? ⟨w.heap.size, 7, none⟩ = some (.bool r.oT) := rb1.at_.c7
  have q8 : w1.cell? ⟨w.heap.size, 8, none⟩ = some (.int .i64 r.oN) := rb1.at_.c8
  have q9 : w1.cell? ⟨w.heap.size, 9, none⟩ = some (.bool r.nT) := rb1.at_.c9
  have q10 : w1.cell? ⟨w.heap.size, 10, none⟩ = some (.int .i64 r.nN) := rb1.at_.c10
  have o1 := owns_lit w1 [(y0 : Int), (y1 : Int), (y2 : Int)]
  have kx : Below w1.heap.size w1 (w1.alloc (.cells #[.int .u8 y0, .int .u8 y1, .int .u8 y2] 5)) := (Below.refl _ _).alloc (Nat.le_refl _) _
  go_wp2
  go_ret2
  exact ⟨_, rfl, o1.base kw1.size, below_more kw1 kx (Nat.le_refl _)⟩
set_option maxRecDepth 100000 in
set_option maxHeartbeats 2000000 in
theorem refEnc_2 (r : RecD) (hr : rightB r = true) (ok : okR r) (h2 : (r.kind == 2) = true) (w : World) : Calls Try.prog 17 #[.agg #[.int .i64 r.kind, .int .i64 r.tx, .int .u16 r.mask, .int .u8 r.k0, .int .u8 r.k1, .int .u8 r.k2, .int .u8 r.k3, .bool r.oT, .int .i64 r.oN, .bool r.nT, .int .i64 r.nN]] w (EncSays r w) := by
  have hbd := right_bd r hr
  have hh := headN_lt r hr
  have hw : r.kind - 1 + 8 * r.tx = ((headN r : Nat) : Int) := by unfold headN; omega
  have c0 : ∀ W, Calls Try.prog 19 #[.agg #[.int .i64 r.kind, .int .i64 r.tx, .int .u16 r.mask, .int .u8 r.k0, .int .u8 r.k1, .int .u8 r.k2, .int .u8 r.k3, .bool r.oT, .int .i64 r.oN, .bool r.nT, .int .i64 r.nN]] W fun e w' => e = .returned (.bool true) ∧ Below W.heap.size W w' := fun W => refRight_any r true hr W
  have he : encL r = bytesL (headN r) 3 ++ bytesL r.mask 2 := by
    simp at *
    simp [encL, tailL, *]
  unfold EncSays
  rw [he]
  have HB := Lib.hid (recBox_new w r)
  obtain ⟨hbd1, hbd2, hbd3, hbd4⟩ := hbd
  have hmk := ok.mask
  have b3 := head0 r.mask
  have b4 := mask1 r.mask hmk
  rw [bytes_two r.mask]
  generalize byteAt r.mask 0 = z0 at *
  generalize byteAt r.mask 1 = z1 at *
  generalize headN r = h at *
  have b0 := head0 h
  have b1 := head1 h
  have b2 := head2 h hh
  rw [bytes_three h]
  generalize byteAt h 0 = y0 at *
  generalize byteAt h 1 = y1 at *
  generalize byteAt h 2 = y2 at *
  clear hr ok he
  go_enter Try.func17, Try.ntmps17
  go_wp2_with fail
  (with_reducible refine (c0 _).mono ?_)
  rintro e w1 ⟨rfl, k1⟩
  have rb1 : RecBox w1 w.heap.size r := HB.out.below k1 (by simp)
  have kw1 : Below w.heap.size w w1 := ((Below.refl _ w).alloc (Nat.le_refl _) _).trans (k1.mono (by simp))
  have hs1 := rb1.at_.lt
  clear HB k1 c0
  have q0 : w1.cell? ⟨w.heap.size, 0, none⟩ = some (.int .i64 r.kind) := rb1.at_.c0
  have q1 : w1.cell? ⟨w.heap.size, 1, none⟩ = some (.int .i64 r.tx) := rb1.at_.c1
  have q2 : w1.cell? ⟨w.heap.size, 2, none⟩ = some (.int .u16 r.mask) := rb1.at_.c2
  have q3 : w1.cell? ⟨w.heap.size, 3, none⟩ = some (.int .u8 r.k0) := rb1.at_.c3
  have q4 : w1.cell? ⟨w.heap.size, 4, none⟩ = some (.int .u8 r.k1) := rb1.at_.c4
  have q5 : w1.cell? ⟨w.heap.size, 5, none⟩ = some (.int .u8 r.k2) := rb1.at_.c5
  have q6 : w1.cell? ⟨w.heap.size, 6, none⟩ = some (.int .u8 r.k3) := rb1.at_.c6
  have q7 : w1.cell? ⟨w.heap.size, 7, none⟩ = some (.bool r.oT) := rb1.at_.c7
  have q8 : w1.cell? ⟨w.heap.size, 8, none⟩ = some (.int .i64 r.oN) := rb1.at_.c8
  have q9 : w1.cell? ⟨w.heap.size, 9, none⟩ = some (.bool r.nT) := rb1.at_.c9
  have q10 : w1.cell? ⟨w.heap.size, 10, none⟩ = some (.int .i64 r.nN) := rb1.at_.c10
  have o1 := owns_lit w1 [(y0 : Int), (y1 : Int), (y2 : Int)]
  have kx : Below w1.heap.size w1 (w1.alloc (.cells #[.int .u8 y0, .int .u8 y1, .int .u8 y2] 5)) := (Below.refl _ _).alloc (Nat.le_refl _) _
  have kx2 : Below (w1.alloc (.cells #[.int .u8 y0, .int .u8 y1, .int .u8 y2] 5)).heap.size (w1.alloc (.cells #[.int .u8 y0, .int .u8 y1, .int .u8 y2] 5)) ((w1.alloc (.cells #[.int .u8 y0, .int .u8 y1, .int .u8 y2] 5)).alloc (.cells #[.int .u8 z0, .int .u8 z1] 5)) := (Below.refl _ _).alloc (Nat.le_refl _) _
  have o2 := o1.below kx2
  have g2 := (owns_lit (w1.alloc (.cells #[.int .u8 y0, .int .u8 y1, .int .u8 y2] 5)) [(z0 : Int), (z1 : Int)]).good
  obtain ⟨A2, c2, e2, g2⟩ := g2
  injection e2 with e3 e4 e5
  subst e3 e5
  rw [show (w1.alloc (.cells #[.int .u8 y0, .int .u8 y1, .int .u8 y2] 5)).heap.size = w1.heap.size + 1 by simp] at g2
  have kx3 := below_more kx kx2 (Nat.le_refl _)
  go_wp2_with (at_builtin; refine wpList_appendB rfl _ _ rfl w1.heap.size _ [(y0 : Int), (y1 : Int), (y2 : Int)] rfl o2 (some ⟨w1.heap.size + 1, 0, none⟩) [(z0 : Int), (z1 : Int)] 2 2 rfl rfl g2 (by simp) kx3.size w1 kx3 ?_; intro v3 w3 o3 k3)
  go_ret2
  exact ⟨v3, rfl, o3.base kw1.size, below_more kw1 k3 (Nat.le_refl _)⟩
set_option maxRecDepth 100000 in
set_option maxHeartbeats 2000000 in
theorem refEnc_8 (r : RecD) (hr : rightB r = true) (ok : okR r) (h2 : (r.kind == 2) = false) (h8 : (r.kind == 8) = true) (w : World) : Calls Try.prog 17 #[.agg #[.int .i64 r.kind, .int .i64 r.tx, .int .u16 r.mask, .int .u8 r.k0, .int .u8 r.k1, .int .u8 r.k2, .int .u8 r.k3, .bool r.oT, .int .i64 r.oN, .bool r.nT, .int .i64 r.nN]] w (EncSays r w) := by
  have hbd := right_bd r hr
  have hh := headN_lt r hr
  have hw : r.kind - 1 + 8 * r.tx = ((headN r : Nat) : Int) := by unfold headN; omega
  have c0 : ∀ W, Calls Try.prog 19 #[.agg #[.int .i64 r.kind, .int .i64 r.tx, .int .u16 r.mask, .int .u8 r.k0, .int .u8 r.k1, .int .u8 r.k2, .int .u8 r.k3, .bool r.oT, .int .i64 r.oN, .bool r.nT, .int .i64 r.nN]] W fun e w' => e = .returned (.bool true) ∧ Below W.heap.size W w' := fun W => refRight_any r true hr W
  have he : encL r = bytesL (headN r) 3 ++ bytesL r.mask 2 := by
    simp at *
    simp [encL, tailL, *]
  unfold EncSays
  rw [he]
  have HB := Lib.hid (recBox_new w r)
  obtain ⟨hbd1, hbd2, hbd3, hbd4⟩ := hbd
  have hmk := ok.mask
  have b3 := head0 r.mask
  have b4 := mask1 r.mask hmk
  rw [bytes_two r.mask]
  generalize byteAt r.mask 0 = z0 at *
  generalize byteAt r.mask 1 = z1 at *
  generalize headN r = h at *
  have b0 := head0 h
  have b1 := head1 h
  have b2 := head2 h hh
  rw [bytes_three h]
  generalize byteAt h 0 = y0 at *
  generalize byteAt h 1 = y1 at *
  generalize byteAt h 2 = y2 at *
  clear hr ok he
  go_enter Try.func17, Try.ntmps17
  go_wp2_with fail
  (with_reducible refine (c0 _).mono ?_)
  rintro e w1 ⟨rfl, k1⟩
  have rb1 : RecBox w1 w.heap.size r := HB.out.below k1 (by simp)
  have kw1 : Below w.heap.size w w1 := ((Below.refl _ w).alloc (Nat.le_refl _) _).trans (k1.mono (by simp))
  have hs1 := rb1.at_.lt
  clear HB k1 c0
  have q0 : w1.cell? ⟨w.heap.size, 0, none⟩ = some (.int .i64 r.kind) := rb1.at_.c0
  have q1 : w1.cell? ⟨w.heap.size, 1, none⟩ = some (.int .i64 r.tx) := rb1.at_.c1
  have q2 : w1.cell? ⟨w.heap.size, 2, none⟩ = some (.int .u16 r.mask) := rb1.at_.c2
  have q3 : w1.cell? ⟨w.heap.size, 3, none⟩ = some (.int .u8 r.k0) := rb1.at_.c3
  have q4 : w1.cell? ⟨w.heap.size, 4, none⟩ = some (.int .u8 r.k1) := rb1.at_.c4
  have q5 : w1.cell? ⟨w.heap.size, 5, none⟩ = some (.int .u8 r.k2) := rb1.at_.c5
  have q6 : w1.cell? ⟨w.heap.size, 6, none⟩ = some (.int .u8 r.k3) := rb1.at_.c6
  have q7 : w1.cell? ⟨w.heap.size, 7, none⟩ = some (.bool r.oT) := rb1.at_.c7
  have q8 : w1.cell? ⟨w.heap.size, 8, none⟩ = some (.int .i64 r.oN) := rb1.at_.c8
  have q9 : w1.cell? ⟨w.heap.size, 9, none⟩ = some (.bool r.nT) := rb1.at_.c9
  have q10 : w1.cell? ⟨w.heap.size, 10, none⟩ = some (.int .i64 r.nN) := rb1.at_.c10
  have o1 := owns_lit w1 [(y0 : Int), (y1 : Int), (y2 : Int)]
  have kx : Below w1.heap.size w1 (w1.alloc (.cells #[.int .u8 y0, .int .u8 y1, .int .u8 y2] 5)) := (Below.refl _ _).alloc (Nat.le_refl _) _
  have kx2 : Below (w1.alloc (.cells #[.int .u8 y0, .int .u8 y1, .int .u8 y2] 5)).heap.size (w1.alloc (.cells #[.int .u8 y0, .int .u8 y1, .int .u8 y2] 5)) ((w1.alloc (.cells #[.int .u8 y0, .int .u8 y1, .int .u8 y2] 5)).alloc (.cells #[.int .u8 z0, .int .u8 z1] 5)) := (Below.refl _ _).alloc (Nat.le_refl _) _
  have o2 := o1.below kx2
  have g2 := (owns_lit (w1.alloc (.cells #[.int .u8 y0, .int .u8 y1, .int .u8 y2] 5)) [(z0 : Int), (z1 : Int)]).good
  obtain ⟨A2, c2, e2, g2⟩ := g2
  injection e2 with e3 e4 e5
  subst e3 e5
  rw [show (w1.alloc (.cells #[.int .u8 y0, .int .u8 y1, .int .u8 y2] 5)).heap.size = w1.heap.size + 1 by simp] at g2
  have kx3 := below_more kx kx2 (Nat.le_refl _)
  go_wp2_with (at_builtin; refine wpList_appendB rfl _ _ rfl w1.heap.size _ [(y0 : Int), (y1 : Int), (y2 : Int)] rfl o2 (some ⟨w1.heap.size + 1, 0, none⟩) [(z0 : Int), (z1 : Int)] 2 2 rfl rfl g2 (by simp) kx3.size w1 kx3 ?_; intro v3 w3 o3 k3)
  go_ret2
  exact ⟨v3, rfl, o3.base kw1.size, below_more kw1 k3 (Nat.le_refl _)⟩
theorem tail_kept {B B' : Nat} {w3 W W' : World} {v v' : Value} {zs zs' : List Int} (ht : Owns B W v zs) (ho : Owns B' w3 v' zs') (hB : w3.heap.size ≤ B) (hg : W.grownBy W' v'.ownBlock) : Owns B W' v zs := by
  refine World.ownsRow.kept ht hg ?_
  cases hv : v.ownBlock with
  | none => exact .inl rfl
  | some k =>
    right
    intro e
    have h1 := (World.ownsRow.lt ht k hv).1
    have h2 := (World.ownsRow.lt ho k e.symm).2
    omega
end Go.Proofs.Ytlohogcddelekaa
