/- rec.Decode: the record at the beginning of bytes, for every bytes. -/
import Derived.Test.YtlohogcddelekaaEl
namespace Go.Proofs.Ytlohogcddelekaa
open Go.RowKit Go.Deep
set_option linter.unusedVariables false

def DecSays (r : RecD) (n : Nat) (w : World) (e : Ending) (w' : World) : Prop := e = .returned (.tuple #[recV r, .int .i64 n]) ∧ Below w.heap.size w w'
set_option maxRecDepth 100000 in
set_option maxHeartbeats 2000000 in
theorem dec_wrong (A : Option Addr) (l c : Nat) (zs : List Int) (hl : zs.length = l) (hz : isBytes zs) (hr : rightB (readL zs) = false) (w : World) (g : Good A c zs w) :
    Calls Try.prog 10 #[.slice A l c] w (DecSays zeroR 0 w) := by
  have ok := readL_ok zs hz
  have F1 : ∀ W, Good A c zs W → Calls Try.prog 22 #[.slice A l c] W fun e w' => e = .returned (.agg #[.int .i64 (readL zs).kind, .int .i64 (readL zs).tx, .int .u16 (readL zs).mask, .int .u8 (readL zs).k0, .int .u8 (readL zs).k1, .int .u8 (readL zs).k2, .int .u8 (readL zs).k3, .bool (readL zs).oT, .int .i64 (readL zs).oN, .bool (readL zs).nT, .int .i64 (readL zs).nN]) ∧ Below W.heap.size W w' := fun W h => read_any A l c zs hl hz W h
  have HW := Lib.hid (recBox_new w zeroR)
  have gW := g.alloc (.cells #[.int .i64 0, .int .i64 0, .int .u16 0, .int .u8 0, .int .u8 0, .int .u8 0, .int .u8 0, .bool false, .int .i64 0, .bool false, .int .i64 0] 32)
  have F2 : ∀ W, Calls Try.prog 16 #[.agg #[.int .i64 (readL zs).kind, .int .i64 (readL zs).tx, .int .u16 (readL zs).mask, .int .u8 (readL zs).k0, .int .u8 (readL zs).k1, .int .u8 (readL zs).k2, .int .u8 (readL zs).k3, .bool (readL zs).oT, .int .i64 (readL zs).oN, .bool (readL zs).nT, .int .i64 (readL zs).nN]] W fun e w' => e = .returned (.tuple #[.slice none 0 0, .bool false]) ∧ Below W.heap.size W w' := fun W => enc_no _ hr W
  generalize readL zs = r at *
  have HM := fun W => Lib.hid (recBox_new W r)
  go_enter Try.func10, Try.ntmps10
  go_wp2_with fail
  (with_reducible refine (F1 _ gW).mono ?_)
  rintro e w1 ⟨rfl, k1⟩
  have rb1 : RecBox w1 w.heap.size zeroR := HW.out.below k1 (by simp)
  have kw1 : Below w.heap.size w w1 := ((Below.refl _ w).alloc (Nat.le_refl _) _).trans (k1.mono (by simp))
  have hs1 : w.heap.size < w1.heap.size := rb1.at_.lt
  have G1 := g.below kw1
  clear HW gW k1 F1
  have rb2 := rb1.below (Below.alloc (Below.refl w1.heap.size w1) (Nat.le_refl _) (.cells #[.int .i64 r.kind, .int .i64 r.tx, .int .u16 r.mask, .int .u8 r.k0, .int .u8 r.k1, .int .u8 r.k2, .int .u8 r.k3, .bool r.oT, .int .i64 r.oN, .bool r.nT, .int .i64 r.nN] 32)) hs1
  have rm2 : RecBox (w1.alloc (.cells #[.int .i64 r.kind, .int .i64 r.tx, .int .u16 r.mask, .int .u8 r.k0, .int .u8 r.k1, .int .u8 r.k2, .int .u8 r.k3, .bool r.oT, .int .i64 r.oN, .bool r.nT, .int .i64 r.nN] 32)) w1.heap.size r := (HM w1).out
  have kw2 : Below w.heap.size w (w1.alloc (.cells #[.int .i64 r.kind, .int .i64 r.tx, .int .u16 r.mask, .int .u8 r.k0, .int .u8 r.k1, .int .u8 r.k2, .int .u8 r.k3, .bool r.oT, .int .i64 r.oN, .bool r.nT, .int .i64 r.nN] 32)) := kw1.alloc kw1.size _
  have G2 := G1.alloc (.cells #[.int .i64 r.kind, .int .i64 r.tx, .int .u16 r.mask, .int .u8 r.k0, .int .u8 r.k1, .int .u8 r.k2, .int .u8 r.k3, .bool r.oT, .int .i64 r.oN, .bool r.nT, .int .i64 r.nN] 32)
  have hs2 : w.heap.size < (w1.alloc (.cells #[.int .i64 r.kind, .int .i64 r.tx, .int .u16 r.mask, .int .u8 r.k0, .int .u8 r.k1, .int .u8 r.k2, .int .u8 r.k3, .bool r.oT, .int .i64 r.oN, .bool r.nT, .int .i64 r.nN] 32)).heap.size := by simp; omega
  clear HM rb1 kw1 G1
  go_wp2_with fail
  (with_reducible refine (F2 _).mono ?_)
  rintro e w3 ⟨rfl, k3⟩
  have rb3 := rb2.below k3 hs2
  have kw3 := below_more kw2 k3 (Nat.le_refl _)
  clear F2 rb2 rm2 kw2 k3 G2 hs2
  have nc0 : w3.cell? ⟨w.heap.size, 0, none⟩ = some (.int .i64 0) := rb3.at_.c0
  have nf0 : w3.frozen? ⟨w.heap.size, 0, none⟩ = false := rb3.fz 0
  have nc1 : w3.cell? ⟨w.heap.size, 1, none⟩ = some (.int .i64 0) := rb3.at_.c1
  have nf1 : w3.frozen? ⟨w.heap.size, 1, none⟩ = false := rb3.fz 1
  have nc2 : w3.cell? ⟨w.heap.size, 2, none⟩ = some (.int .u16 0) := rb3.at_.c2
  have nf2 : w3.frozen? ⟨w.heap.size, 2, none⟩ = false := rb3.fz 2
  have nc3 : w3.cell? ⟨w.heap.size, 3, none⟩ = some (.int .u8 0) := rb3.at_.c3
  have nf3 : w3.frozen? ⟨w.heap.size, 3, none⟩ = false := rb3.fz 3
  have nc4 : w3.cell? ⟨w.heap.size, 4, none⟩ = some (.int .u8 0) := rb3.at_.c4
  have nf4 : w3.frozen? ⟨w.heap.size, 4, none⟩ = false := rb3.fz 4
  have nc5 : w3.cell? ⟨w.heap.size, 5, none⟩ = some (.int .u8 0) := rb3.at_.c5
  have nf5 : w3.frozen? ⟨w.heap.size, 5, none⟩ = false := rb3.fz 5
  have nc6 : w3.cell? ⟨w.heap.size, 6, none⟩ = some (.int .u8 0) := rb3.at_.c6
  have nf6 : w3.frozen? ⟨w.heap.size, 6, none⟩ = false := rb3.fz 6
  have nc7 : w3.cell? ⟨w.heap.size, 7, none⟩ = some (.bool false) := rb3.at_.c7
  have nf7 : w3.frozen? ⟨w.heap.size, 7, none⟩ = false := rb3.fz 7
  have nc8 : w3.cell? ⟨w.heap.size, 8, none⟩ = some (.int .i64 0) := rb3.at_.c8
  have nf8 : w3.frozen? ⟨w.heap.size, 8, none⟩ = false := rb3.fz 8
  have nc9 : w3.cell? ⟨w.heap.size, 9, none⟩ = some (.bool false) := rb3.at_.c9
  have nf9 : w3.frozen? ⟨w.heap.size, 9, none⟩ = false := rb3.fz 9
  have nc10 : w3.cell? ⟨w.heap.size, 10, none⟩ = some (.int .i64 0) := rb3.at_.c10
  have nf10 : w3.frozen? ⟨w.heap.size, 10, none⟩ = false := rb3.fz 10
  go_wp2
  refine bodyPost_ret (v := .tuple #[.agg #[.int .i64 0, .int .i64 0, .int .u16 0, .int .u8 0, .int .u8 0, .int .u8 0, .int .u8 0, .bool false, .int .i64 0, .bool false, .int .i64 0], .int .i64 0]) ?_ rfl ⟨rfl, ?_⟩
  · simp [results, Try.results10, go_sem, nc0, nc1, nc2, nc3, nc4, nc5, nc6, nc7, nc8, nc9, nc10]
  · repeat first | with_reducible exact kw3 | with_reducible refine below_sc ?_ (Nat.le_refl _) _ | with_reducible refine Below.drew ?_
set_option maxRecDepth 100000 in
set_option maxHeartbeats 2000000 in
theorem dec_other (A : Option Addr) (l c n : Nat) (zs : List Int) (hl : zs.length = l) (hz : isBytes zs) (hr : rightB (readL zs) = true) (hn : (encL (readL zs)).length = n) (hp : hasP zs (encL (readL zs)) = false) (w : World) (g : Good A c zs w) :
    Calls Try.prog 10 #[.slice A l c] w (DecSays zeroR 0 w) := by
  have ok := readL_ok zs hz
  have F1 : ∀ W, Good A c zs W → Calls Try.prog 22 #[.slice A l c] W fun e w' => e = .returned (.agg #[.int .i64 (readL zs).kind, .int .i64 (readL zs).tx, .int .u16 (readL zs).mask, .int .u8 (readL zs).k0, .int .u8 (readL zs).k1, .int .u8 (readL zs).k2, .int .u8 (readL zs).k3, .bool (readL zs).oT, .int .i64 (readL zs).oN, .bool (readL zs).nT, .int .i64 (readL zs).nN]) ∧ Below W.heap.size W w' := fun W h => read_any A l c zs hl hz W h
  have HW := Lib.hid (recBox_new w zeroR)
  have gW := g.alloc (.cells #[.int .i64 0, .int .i64 0, .int .u16 0, .int .u8 0, .int .u8 0, .int .u8 0, .int .u8 0, .bool false, .int .i64 0, .bool false, .int .i64 0] 32)
  have F2 : ∀ W, Calls Try.prog 16 #[.agg #[.int .i64 (readL zs).kind, .int .i64 (readL zs).tx, .int .u16 (readL zs).mask, .int .u8 (readL zs).k0, .int .u8 (readL zs).k1, .int .u8 (readL zs).k2, .int .u8 (readL zs).k3, .bool (readL zs).oT, .int .i64 (readL zs).oN, .bool (readL zs).nT, .int .i64 (readL zs).nN]] W fun e w' => ∃ A2 c2, e = .returned (.tuple #[.slice A2 n c2, .bool true]) ∧ Good A2 c2 (encL (readL zs)) w' ∧ Below W.heap.size W w' := fun W => by
    refine (enc_yes (readL zs) hr ok W).mono ?_
    rintro e w' ⟨v, rfl, o, k⟩
    obtain ⟨A2, c2, rfl, g2⟩ := o.good
    exact ⟨A2, c2, by rw [hn], g2, k⟩
  have hb3 := (encL_bd (readL zs)).1
  have F3 := fun A2 c2 W g' g => hasPrefix_any A A2 zs (encL (readL zs)) l n c c2 false hl hn hz (encL_bytes _ ok) (by omega) hp W g g'
  generalize encL (readL zs) = es at *
  generalize readL zs = r at *
  have HM := fun W => Lib.hid (recBox_new W r)
  go_enter Try.func10, Try.ntmps10
  go_wp2_with fail
  (with_reducible refine (F1 _ gW).mono ?_)
  rintro e w1 ⟨rfl, k1⟩
  have rb1 : RecBox w1 w.heap.size zeroR := HW.out.below k1 (by simp)
  have kw1 : Below w.heap.size w w1 := ((Below.refl _ w).alloc (Nat.le_refl _) _).trans (k1.mono (by simp))
  have hs1 : w.heap.size < w1.heap.size := rb1.at_.lt
  have G1 := g.below kw1
  clear HW gW k1 F1
  have rb2 := rb1.below (Below.alloc (Below.refl w1.heap.size w1) (Nat.le_refl _) (.cells #[.int .i64 r.kind, .int .i64 r.tx, .int .u16 r.mask, .int .u8 r.k0, .int .u8 r.k1, .int .u8 r.k2, .int .u8 r.k3, .bool r.oT, .int .i64 r.oN, .bool r.nT, .int .i64 r.nN] 32)) hs1
  have rm2 : RecBox (w1.alloc (.cells #[.int .i64 r.kind, .int .i64 r.tx, .int .u16 r.mask, .int .u8 r.k0, .int .u8 r.k1, .int .u8 r.k2, .int .u8 r.k3, .bool r.oT, .int .i64 r.oN, .bool r.nT, .int .i64 r.nN] 32)) w1.heap.size r := (HM w1).out
  have kw2 : Below w.heap.size w (w1.alloc (.cells #[.int .i64 r.kind, .int .i64 r.tx, .int .u16 r.mask, .int .u8 r.k0, .int .u8 r.k1, .int .u8 r.k2, .int .u8 r.k3, .bool r.oT, .int .i64 r.oN, .bool r.nT, .int .i64 r.nN] 32)) := kw1.alloc kw1.size _
  have G2 := G1.alloc (.cells #[.int .i64 r.kind, .int .i64 r.tx, .int .u16 r.mask, .int .u8 r.k0, .int .u8 r.k1, .int .u8 r.k2, .int .u8 r.k3, .bool r.oT, .int .i64 r.oN, .bool r.nT, .int .i64 r.nN] 32)
  have hs2 : w.heap.size < (w1.alloc (.cells #[.int .i64 r.kind, .int .i64 r.tx, .int .u16 r.mask, .int .u8 r.k0, .int .u8 r.k1, .int .u8 r.k2, .int .u8 r.k3, .bool r.oT, .int .i64 r.oN, .bool r.nT, .int .i64 r.nN] 32)).heap.size := by simp; omega
  clear HM rb1 kw1 G1
  go_wp2_with fail
  (with_reducible refine (F2 _).mono ?_)
  rintro e w3 ⟨A3, c3, rfl, g3, k3⟩
  have rb3 := rb2.below k3 hs2
  have rm3 := rm2.below k3 (by simp)
  have kw3 := below_more kw2 k3 (Nat.le_refl _)
  have G3 := G2.below k3
  clear F2 rb2 rm2 kw2 k3 G2 hs2
  go_wp2_with fail
  (with_reducible refine (F3 _ _ _ g3 G3).mono ?_)
  rintro e w4 ⟨rfl, rfl⟩
  clear F3 g3 G3
  have nc0 : w3.cell? ⟨w.heap.size, 0, none⟩ = some (.int .i64 0) := rb3.at_.c0
  have nf0 : w3.frozen? ⟨w.heap.size, 0, none⟩ = false := rb3.fz 0
  have nc1 : w3.cell? ⟨w.heap.size, 1, none⟩ = some (.int .i64 0) := rb3.at_.c1
  have nf1 : w3.frozen? ⟨w.heap.size, 1, none⟩ = false := rb3.fz 1
  have nc2 : w3.cell? ⟨w.heap.size, 2, none⟩ = some (.int .u16 0) := rb3.at_.c2
  have nf2 : w3.frozen? ⟨w.heap.size, 2, none⟩ = false := rb3.fz 2
  have nc3 : w3.cell? ⟨w.heap.size, 3, none⟩ = some (.int .u8 0) := rb3.at_.c3
  have nf3 : w3.frozen? ⟨w.heap.size, 3, none⟩ = false := rb3.fz 3
  have nc4 : w3.cell? ⟨w.heap.size, 4, none⟩ = some (.int .u8 0) := rb3.at_.c4
  have nf4 : w3.frozen? ⟨w.heap.size, 4, none⟩ = false := rb3.fz 4
  have nc5 : w3.cell? ⟨w.heap.size, 5, none⟩ = some (.int .u8 0) := rb3.at_.c5
  have nf5 : w3.frozen? ⟨w.heap.size, 5, none⟩ = false := rb3.fz 5
  have nc6 : w3.cell? ⟨w.heap.size, 6, none⟩ = some (.int .u8 0) := rb3.at_.c6
  have nf6 : w3.frozen? ⟨w.heap.size, 6, none⟩ = false := rb3.fz 6
  have nc7 : w3.cell? ⟨w.heap.size, 7, none⟩ = some (.bool false) := rb3.at_.c7
  have nf7 : w3.frozen? ⟨w.heap.size, 7, none⟩ = false := rb3.fz 7
  have nc8 : w3.cell? ⟨w.heap.size, 8, none⟩ = some (.int .i64 0) := rb3.at_.c8
  have nf8 : w3.frozen? ⟨w.heap.size, 8, none⟩ = false := rb3.fz 8
  have nc9 : w3.cell? ⟨w.heap.size, 9, none⟩ = some (.bool false) := rb3.at_.c9
  have nf9 : w3.frozen? ⟨w.heap.size, 9, none⟩ = false := rb3.fz 9
  have nc10 : w3.cell? ⟨w.heap.size, 10, none⟩ = some (.int .i64 0) := rb3.at_.c10
  have nf10 : w3.frozen? ⟨w.heap.size, 10, none⟩ = false := rb3.fz 10
  go_wp2
  refine bodyPost_ret (v := .tuple #[.agg #[.int .i64 0, .int .i64 0, .int .u16 0, .int .u8 0, .int .u8 0, .int .u8 0, .int .u8 0, .bool false, .int .i64 0, .bool false, .int .i64 0], .int .i64 0]) ?_ rfl ⟨rfl, ?_⟩
  · simp [results, Try.results10, go_sem, nc0, nc1, nc2, nc3, nc4, nc5, nc6, nc7, nc8, nc9, nc10]
  · repeat first | with_reducible exact kw3 | with_reducible refine below_sc ?_ (Nat.le_refl _) _ | with_reducible refine Below.drew ?_
set_option maxRecDepth 100000 in
set_option maxHeartbeats 2000000 in
theorem dec_yes (A : Option Addr) (l c n : Nat) (zs : List Int) (hl : zs.length = l) (hz : isBytes zs) (hr : rightB (readL zs) = true) (hn : (encL (readL zs)).length = n) (hp : hasP zs (encL (readL zs)) = true) (w : World) (g : Good A c zs w) :
    Calls Try.prog 10 #[.slice A l c] w (DecSays (readL zs) n w) := by
  have ok := readL_ok zs hz
  have F1 : ∀ W, Good A c zs W → Calls Try.prog 22 #[.slice A l c] W fun e w' => e = .returned (.agg #[.int .i64 (readL zs).kind, .int .i64 (readL zs).tx, .int .u16 (readL zs).mask, .int .u8 (readL zs).k0, .int .u8 (readL zs).k1, .int .u8 (readL zs).k2, .int .u8 (readL zs).k3, .bool (readL zs).oT, .int .i64 (readL zs).oN, .bool (readL zs).nT, .int .i64 (readL zs).nN]) ∧ Below W.heap.size W w' := fun W h => read_any A l c zs hl hz W h
  have HW := Lib.hid (recBox_new w zeroR)
  have gW := g.alloc (.cells #[.int .i64 0, .int .i64 0, .int .u16 0, .int .u8 0, .int .u8 0, .int .u8 0, .int .u8 0, .bool false, .int .i64 0, .bool false, .int .i64 0] 32)
  have F2 : ∀ W, Calls Try.prog 16 #[.agg #[.int .i64 (readL zs).kind, .int .i64 (readL zs).tx, .int .u16 (readL zs).mask, .int .u8 (readL zs).k0, .int .u8 (readL zs).k1, .int .u8 (readL zs).k2, .int .u8 (readL zs).k3, .bool (readL zs).oT, .int .i64 (readL zs).oN, .bool (readL zs).nT, .int .i64 (readL zs).nN]] W fun e w' => ∃ A2 c2, e = .returned (.tuple #[.slice A2 n c2, .bool true]) ∧ Good A2 c2 (encL (readL zs)) w' ∧ Below W.heap.size W w' := fun W => by
    refine (enc_yes (readL zs) hr ok W).mono ?_
    rintro e w' ⟨v, rfl, o, k⟩
    obtain ⟨A2, c2, rfl, g2⟩ := o.good
    exact ⟨A2, c2, by rw [hn], g2, k⟩
  have hb3 := (encL_bd (readL zs)).1
  have F3 := fun A2 c2 W g' g => hasPrefix_any A A2 zs (encL (readL zs)) l n c c2 true hl hn hz (encL_bytes _ ok) (by omega) hp W g g'
  generalize encL (readL zs) = es at *
  generalize readL zs = r at *
  have HM := fun W => Lib.hid (recBox_new W r)
  go_enter Try.func10, Try.ntmps10
  go_wp2_with fail
  (with_reducible refine (F1 _ gW).mono ?_)
  rintro e w1 ⟨rfl, k1⟩
  have rb1 : RecBox w1 w.heap.size zeroR := HW.out.below k1 (by simp)
  have kw1 : Below w.heap.size w w1 := ((Below.refl _ w).alloc (Nat.le_refl _) _).trans (k1.mono (by simp))
  have hs1 : w.heap.size < w1.heap.size := rb1.at_.lt
  have G1 := g.below kw1
  clear HW gW k1 F1
  have rb2 := rb1.below (Below.alloc (Below.refl w1.heap.size w1) (Nat.le_refl _) (.cells #[.int .i64 r.kind, .int .i64 r.tx, .int .u16 r.mask, .int .u8 r.k0, .int .u8 r.k1, .int .u8 r.k2, .int .u8 r.k3, .bool r.oT, .int .i64 r.oN, .bool r.nT, .int .i64 r.nN] 32)) hs1
  have rm2 : RecBox (w1.alloc (.cells #[.int .i64 r.kind, .int .i64 r.tx, .int .u16 r.mask, .int .u8 r.k0, .int .u8 r.k1, .int .u8 r.k2, .int .u8 r.k3, .bool r.oT, .int .i64 r.oN, .bool r.nT, .int .i64 r.nN] 32)) w1.heap.size r := (HM w1).out
  have kw2 : Below w.heap.size w (w1.alloc (.cells #[.int .i64 r.kind, .int .i64 r.tx, .int .u16 r.mask, .int .u8 r.k0, .int .u8 r.k1, .int .u8 r.k2, .int .u8 r.k3, .bool r.oT, .int .i64 r.oN, .bool r.nT, .int .i64 r.nN] 32)) := kw1.alloc kw1.size _
  have G2 := G1.alloc (.cells #[.int .i64 r.kind, .int .i64 r.tx, .int .u16 r.mask, .int .u8 r.k0, .int .u8 r.k1, .int .u8 r.k2, .int .u8 r.k3, .bool r.oT, .int .i64 r.oN, .bool r.nT, .int .i64 r.nN] 32)
  have hs2 : w.heap.size < (w1.alloc (.cells #[.int .i64 r.kind, .int .i64 r.tx, .int .u16 r.mask, .int .u8 r.k0, .int .u8 r.k1, .int .u8 r.k2, .int .u8 r.k3, .bool r.oT, .int .i64 r.oN, .bool r.nT, .int .i64 r.nN] 32)).heap.size := by simp; omega
  clear HM rb1 kw1 G1
  go_wp2_with fail
  (with_reducible refine (F2 _).mono ?_)
  rintro e w3 ⟨A3, c3, rfl, g3, k3⟩
  have rb3 := rb2.below k3 hs2
  have rm3 := rm2.below k3 (by simp)
  have kw3 := below_more kw2 k3 (Nat.le_refl _)
  have G3 := G2.below k3
  clear F2 rb2 rm2 kw2 k3 G2 hs2
  go_wp2_with fail
  (with_reducible refine (F3 _ _ _ g3 G3).mono ?_)
  rintro e w4 ⟨rfl, rfl⟩
  clear F3 g3 G3
  have nc0 : w3.cell? ⟨w.heap.size, 0, none⟩ = some (.int .i64 0) := rb3.at_.c0
  have nf0 : w3.frozen? ⟨w.heap.size, 0, none⟩ = false := rb3.fz 0
  have nc1 : w3.cell? ⟨w.heap.size, 1, none⟩ = some (.int .i64 0) := rb3.at_.c1
  have nf1 : w3.frozen? ⟨w.heap.size, 1, none⟩ = false := rb3.fz 1
  have nc2 : w3.cell? ⟨w.heap.size, 2, none⟩ = some (.int .u16 0) := rb3.at_.c2
  have nf2 : w3.frozen? ⟨w.heap.size, 2, none⟩ = false := rb3.fz 2
  have nc3 : w3.cell? ⟨w.heap.size, 3, none⟩ = some (.int .u8 0) := rb3.at_.c3
  have nf3 : w3.frozen? ⟨w.heap.size, 3, none⟩ = false := rb3.fz 3
  have nc4 : w3.cell? ⟨w.heap.size, 4, none⟩ = some (.int .u8 0) := rb3.at_.c4
  have nf4 : w3.frozen? ⟨w.heap.size, 4, none⟩ = false := rb3.fz 4
  have nc5 : w3.cell? ⟨w.heap.size, 5, none⟩ = some (.int .u8 0) := rb3.at_.c5
  have nf5 : w3.frozen? ⟨w.heap.size, 5, none⟩ = false := rb3.fz 5
  have nc6 : w3.cell? ⟨w.heap.size, 6, none⟩ = some (.int .u8 0) := rb3.at_.c6
  have nf6 : w3.frozen? ⟨w.heap.size, 6, none⟩ = false := rb3.fz 6
  have nc7 : w3.cell? ⟨w.heap.size, 7, none⟩ = some (.bool false) := rb3.at_.c7
  have nf7 : w3.frozen? ⟨w.heap.size, 7, none⟩ = false := rb3.fz 7
  have nc8 : w3.cell? ⟨w.heap.size, 8, none⟩ = some (.int .i64 0) := rb3.at_.c8
  have nf8 : w3.frozen? ⟨w.heap.size, 8, none⟩ = false := rb3.fz 8
  have nc9 : w3.cell? ⟨w.heap.size, 9, none⟩ = some (.bool false) := rb3.at_.c9
  have nf9 : w3.frozen? ⟨w.heap.size, 9, none⟩ = false := rb3.fz 9
  have nc10 : w3.cell? ⟨w.heap.size, 10, none⟩ = some (.int .i64 0) := rb3.at_.c10
  have nf10 : w3.frozen? ⟨w.heap.size, 10, none⟩ = false := rb3.fz 10
  have mc0 : w3.cell? ⟨w1.heap.size, 0, none⟩ = some (.int .i64 r.kind) := rm3.at_.c0
  have mc1 : w3.cell? ⟨w1.heap.size, 1, none⟩ = some (.int .i64 r.tx) := rm3.at_.c1
  have mc2 : w3.cell? ⟨w1.heap.size, 2, none⟩ = some (.int .u16 r.mask) := rm3.at_.c2
  have mc3 : w3.cell? ⟨w1.heap.size, 3, none⟩ = some (.int .u8 r.k0) := rm3.at_.c3
  have mc4 : w3.cell? ⟨w1.heap.size, 4, none⟩ = some (.int .u8 r.k1) := rm3.at_.c4
  have mc5 : w3.cell? ⟨w1.heap.size, 5, none⟩ = some (.int .u8 r.k2) := rm3.at_.c5
  have mc6 : w3.cell? ⟨w1.heap.size, 6, none⟩ = some (.int .u8 r.k3) := rm3.at_.c6
  have mc7 : w3.cell? ⟨w1.heap.size, 7, none⟩ = some (.bool r.oT) := rm3.at_.c7
  have mc8 : w3.cell? ⟨w1.heap.size, 8, none⟩ = some (.int .i64 r.oN) := rm3.at_.c8
  have mc9 : w3.cell? ⟨w1.heap.size, 9, none⟩ = some (.bool r.nT) := rm3.at_.c9
  have mc10 : w3.cell? ⟨w1.heap.size, 10, none⟩ = some (.int .i64 r.nN) := rm3.at_.c10
  go_wp2
  refine bodyPost_ret (v := .tuple #[.agg #[.int .i64 r.kind, .int .i64 r.tx, .int .u16 r.mask, .int .u8 r.k0, .int .u8 r.k1, .int .u8 r.k2, .int .u8 r.k3, .bool r.oT, .int .i64 r.oN, .bool r.nT, .int .i64 r.nN], .int .i64 n]) ?_ rfl ⟨rfl, ?_⟩
  · simp [results, Try.results10, go_sem, nc0, nc1, nc2, nc3, nc4, nc5, nc6, nc7, nc8, nc9, nc10]
  · repeat first | with_reducible exact kw3 | with_reducible refine below_sc ?_ (Nat.le_refl _) _ | with_reducible refine Below.drew ?_
/-- rec.Decode, at every bytes. -/
theorem dec_any (A : Option Addr) (l c : Nat) (zs : List Int) (hl : zs.length = l) (hz : isBytes zs) (w : World) (g : Good A c zs w) :
    Calls Try.prog 10 #[.slice A l c] w (DecSays (decR zs) (decN zs) w) := by
  cases hr : rightB (readL zs) with
  | false =>
    have e : decOK zs = false := by simp [decOK, hr]
    have e1 : decR zs = zeroR := by simp [decR, e]
    have e2 : decN zs = 0 := by simp [decN, e]
    rw [e1, e2]
    exact dec_wrong A l c zs hl hz hr w g
  | true =>
    cases hp : hasP zs (encL (readL zs)) with
    | false =>
      have e : decOK zs = false := by simp [decOK, hr, hp]
      have e1 : decR zs = zeroR := by simp [decR, e]
      have e2 : decN zs = 0 := by simp [decN, e]
      rw [e1, e2]
      exact dec_other A l c _ zs hl hz hr rfl hp w g
    | true =>
      have e : decOK zs = true := by simp [decOK, hr, hp]
      have e1 : decR zs = readL zs := by simp [decR, e]
      have e2 : decN zs = (encL (readL zs)).length := by simp [decN, e]
      rw [e1, e2]
      exact dec_yes A l c _ zs hl hz hr rfl hp w g
end Go.Proofs.Ytlohogcddelekaa
