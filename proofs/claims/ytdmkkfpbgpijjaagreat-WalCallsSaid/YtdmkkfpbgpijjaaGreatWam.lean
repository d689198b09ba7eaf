/- rec.Decode: the record at the beginning of bytes, for every bytes. Lists of records in memory: a slice holds records (GoodR), new records of one's own (OwnsR), append onto them, lists compared (SameRecs). rec.All: the records of bytes, for every bytes. rec.Join: the bytes of records, for every list of records. Layer 1 for the stages above it: the document's own Zig, Zag and From. -/
import Derived.Test.YtdmkkfpbgpijjaaGreatWal
import Derived.Test.YtdmkkfpbgpijjaaGreatWag
namespace Go.Proofs.YtdmkkfpbgpijjaaGreat
open Go.RowKit Go.Deep
set_option linter.unusedVariables false

def DecSays (r : RecD) (n : Nat) (w : World) (e : Ending) (w' : World) : Prop := e = .returned (.tuple #[recV r, .int .i64 n]) ∧ Below w.heap.size w w'
set_option maxRecDepth 100000 in
set_option maxHeartbeats 2000000 in
theorem dec_wrong (A : Option Addr) (l c : Nat) (zs : List Int) (hl : zs.length = l) (hz : isBytes zs) (hr : rightB (readL zs) = false) (w : World) (g : Good A c zs w) :
    Calls Tryz.prog 73 #[.slice A l c] w (DecSays zeroR 0 w) := by
  have ok := readL_ok zs hz
  have F1 : ∀ W, Good A c zs W → Calls Tryz.prog 89 #[.slice A l c] W fun e w' => e = .returned (.agg #[.int .i64 (readL zs).kind, .int .i64 (readL zs).tx, .int .u16 (readL zs).mask, .int .u8 (readL zs).k0, .int .u8 (readL zs).k1, .int .u8 (readL zs).k2, .int .u8 (readL zs).k3, .bool (readL zs).oT, .int .i64 (readL zs).oN, .bool (readL zs).nT, .int .i64 (readL zs).nN]) ∧ Below W.heap.size W w' := fun W h => read_any A l c zs hl hz W h
  have HW := Lib.hid (recBox_new w zeroR)
  have gW := g.alloc (.cells #[.int .i64 0, .int .i64 0, .int .u16 0, .int .u8 0, .int .u8 0, .int .u8 0, .int .u8 0, .bool false, .int .i64 0, .bool false, .int .i64 0] 63)
  have F2 : ∀ W, Calls Tryz.prog 70 #[.agg #[.int .i64 (readL zs).kind, .int .i64 (readL zs).tx, .int .u16 (readL zs).mask, .int .u8 (readL zs).k0, .int .u8 (readL zs).k1, .int .u8 (readL zs).k2, .int .u8 (readL zs).k3, .bool (readL zs).oT, .int .i64 (readL zs).oN, .bool (readL zs).nT, .int .i64 (readL zs).nN]] W fun e w' => e = .returned (.tuple #[.slice none 0 0, .bool false]) ∧ Below W.heap.size W w' := fun W => enc_no _ hr W
  generalize readL zs = r at *
  have HM := fun W => Lib.hid (recBox_new W r)
  go_enter Tryz.func73, Tryz.ntmps73
  go_wp2_with fail
  (with_reducible refine (F1 _ gW).mono ?_)
  rintro e w1 ⟨rfl, k1⟩
  have rb1 : RecBox w1 w.heap.size zeroR := HW.out.below k1 (by simp)
  have kw1 : Below w.heap.size w w1 := ((Below.refl _ w).alloc (Nat.le_refl _) _).trans (k1.mono (by simp))
  have hs1 : w.heap.size < w1.heap.size := rb1.at_.lt
  have G1 := g.below kw1
  clear HW gW k1 F1
  have rb2 := rb1.below (Below.alloc (Below.refl w1.heap.size w1) (Nat.le_refl _) (.cells #[.int .i64 r.kind, .int .i64 r.tx, .int .u16 r.mask, .int .u8 r.k0, .int .u8 r.k1, .int .u8 r.k2, .int .u8 r.k3, .bool r.oT, .int .i64 r.oN, .bool r.nT, .int .i64 r.nN] 63)) hs1
  have rm2 : RecBox (w1.alloc (.cells #[.int .i64 r.kind, .int .i64 r.tx, .int .u16 r.mask, .int .u8 r.k0, .int .u8 r.k1, .int .u8 r.k2, .int .u8 r.k3, .bool r.oT, .int .i64 r.oN, .bool r.nT, .int .i64 r.nN] 63)) w1.heap.size r := (HM w1).out
  have kw2 : Below w.heap.size w (w1.alloc (.cells #[.int .i64 r.kind, .int .i64 r.tx, .int .u16 r.mask, .int .u8 r.k0, .int .u8 r.k1, .int .u8 r.k2, .int .u8 r.k3, .bool r.oT, .int .i64 r.oN, .bool r.nT, .int .i64 r.nN] 63)) := kw1.alloc kw1.size _
  have G2 := G1.alloc (.cells #[.int .i64 r.kind, .int .i64 r.tx, .int .u16 r.mask, .int .u8 r.k0, .int .u8 r.k1, .int .u8 r.k2, .int .u8 r.k3, .bool r.oT, .int .i64 r.oN, .bool r.nT, .int .i64 r.nN] 63)
  have hs2 : w.heap.size < (w1.alloc (.cells #[.int .i64 r.kind, .int .i64 r.tx, .int .u16 r.mask, .int .u8 r.k0, .int .u8 r.k1, .int .u8 r.k2, .int .u8 r.k3, .bool r.oT, .int .i64 r.oN, .bool r.nT, .int .i64 r.nN] 63)).heap.size := by simp; omega
  clear HM rb1 kw1 G1
  go_wp2_with fail
  (with_reducible refine (F2 _).mono ?_)
  rintro e w3 ⟨rfl, k3⟩
  have rb3 := rb2.below k3 hs2
  have kw3 := below_more kw2 k3 (Nat.le_refl _)
  clear F2 rb2 rm2 kw2 k3 G2 hs2
  obtain ⟨nc0, nf0, nc1, nf1, nc2, nf2, nc3, nf3, nc4, nf4, nc5, nf5, nc6, nf6, nc7, nf7, nc8, nf8, nc9, nf9, nc10, nf10⟩ := boxC 0 0 0 0 0 0 0 false 0 false 0 rb3
  go_wp2
  refine bodyPost_ret (v := .tuple #[.agg #[.int .i64 0, .int .i64 0, .int .u16 0, .int .u8 0, .int .u8 0, .int .u8 0, .int .u8 0, .bool false, .int .i64 0, .bool false, .int .i64 0], .int .i64 0]) ?_ rfl ⟨rfl, ?_⟩
  · simp [results, Tryz.results73, go_sem, nc0, nc1, nc2, nc3, nc4, nc5, nc6, nc7, nc8, nc9, nc10]
  · repeat first | with_reducible exact kw3 | with_reducible refine below_sc ?_ (Nat.le_refl _) _ | with_reducible refine Below.drew ?_
set_option maxRecDepth 100000 in
set_option maxHeartbeats 2000000 in
theorem dec_other (A : Option Addr) (l c n : Nat) (zs : List Int) (hl : zs.length = l) (hz : isBytes zs) (hr : rightB (readL zs) = true) (hn : (encL (readL zs)).length = n) (hp : hasP zs (encL (readL zs)) = false) (w : World) (g : Good A c zs w) :
    Calls Tryz.prog 73 #[.slice A l c] w (DecSays zeroR 0 w) := by
  have ok := readL_ok zs hz
  have F1 : ∀ W, Good A c zs W → Calls Tryz.prog 89 #[.slice A l c] W fun e w' => e = .returned (.agg #[.int .i64 (readL zs).kind, .int .i64 (readL zs).tx, .int .u16 (readL zs).mask, .int .u8 (readL zs).k0, .int .u8 (readL zs).k1, .int .u8 (readL zs).k2, .int .u8 (readL zs).k3, .bool (readL zs).oT, .int .i64 (readL zs).oN, .bool (readL zs).nT, .int .i64 (readL zs).nN]) ∧ Below W.heap.size W w' := fun W h => read_any A l c zs hl hz W h
  have HW := Lib.hid (recBox_new w zeroR)
  have gW := g.alloc (.cells #[.int .i64 0, .int .i64 0, .int .u16 0, .int .u8 0, .int .u8 0, .int .u8 0, .int .u8 0, .bool false, .int .i64 0, .bool false, .int .i64 0] 63)
  have F2 : ∀ W, Calls Tryz.prog 70 #[.agg #[.int .i64 (readL zs).kind, .int .i64 (readL zs).tx, .int .u16 (readL zs).mask, .int .u8 (readL zs).k0, .int .u8 (readL zs).k1, .int .u8 (readL zs).k2, .int .u8 (readL zs).k3, .bool (readL zs).oT, .int .i64 (readL zs).oN, .bool (readL zs).nT, .int .i64 (readL zs).nN]] W fun e w' => ∃ A2 c2, e = .returned (.tuple #[.slice A2 n c2, .bool true]) ∧ Good A2 c2 (encL (readL zs)) w' ∧ Below W.heap.size W w' := fun W => by
    refine (enc_yes (readL zs) hr ok W).mono ?_
    rintro e w' ⟨v, rfl, o, k⟩
    obtain ⟨A2, c2, rfl, g2⟩ := o.good
    exact ⟨A2, c2, by rw [hn], g2, k⟩
  have hb3 := (encL_bd (readL zs)).1
  have F3 := fun A2 c2 W g' g => hasPrefix_any A A2 zs (encL (readL zs)) l n c c2 false hl hn hz (encL_bytes _ ok) (by omega) hp W g g'
  generalize encL (readL zs) = es at *
  generalize readL zs = r at *
  have HM := fun W => Lib.hid (recBox_new W r)
  go_enter Tryz.func73, Tryz.ntmps73
  go_wp2_with fail
  (with_reducible refine (F1 _ gW).mono ?_)
  rintro e w1 ⟨rfl, k1⟩
  have rb1 : RecBox w1 w.heap.size zeroR := HW.out.below k1 (by simp)
  have kw1 : Below w.heap.size w w1 := ((Below.refl _ w).alloc (Nat.le_refl _) _).trans (k1.mono (by simp))
  have hs1 : w.heap.size < w1.heap.size := rb1.at_.lt
  have G1 := g.below kw1
  clear HW gW k1 F1
  have rb2 := rb1.below (Below.alloc (Below.refl w1.heap.size w1) (Nat.le_refl _) (.cells #[.int .i64 r.kind, .int .i64 r.tx, .int .u16 r.mask, .int .u8 r.k0, .int .u8 r.k1, .int .u8 r.k2, .int .u8 r.k3, .bool r.oT, .int .i64 r.oN, .bool r.nT, .int .i64 r.nN] 63)) hs1
  have rm2 : RecBox (w1.alloc (.cells #[.int .i64 r.kind, .int .i64 r.tx, .int .u16 r.mask, .int .u8 r.k0, .int .u8 r.k1, .int .u8 r.k2, .int .u8 r.k3, .bool r.oT, .int .i64 r.oN, .bool r.nT, .int .i64 r.nN] 63)) w1.heap.size r := (HM w1).out
  have kw2 : Below w.heap.size w (w1.alloc (.cells #[.int .i64 r.kind, .int .i64 r.tx, .int .u16 r.mask, .int .u8 r.k0, .int .u8 r.k1, .int .u8 r.k2, .int .u8 r.k3, .bool r.oT, .int .i64 r.oN, .bool r.nT, .int .i64 r.nN] 63)) := kw1.alloc kw1.size _
  have G2 := G1.alloc (.cells #[.int .i64 r.kind, .int .i64 r.tx, .int .u16 r.mask, .int .u8 r.k0, .int .u8 r.k1, .int .u8 r.k2, .int .u8 r.k3, .bool r.oT, .int .i64 r.oN, .bool r.nT, .int .i64 r.nN] 63)
  have hs2 : w.heap.size < (w1.alloc (.cells #[.int .i64 r.kind, .int .i64 r.tx, .int .u16 r.mask, .int .u8 r.k0, .int .u8 r.k1, .int .u8 r.k2, .int .u8 r.k3, .bool r.oT, .int .i64 r.oN, .bool r.nT, .int .i64 r.nN] 63)).heap.size := by simp; omega
  clear HM rb1 kw1 G1
  go_wp2_with fail
  (with_reducible refine (F2 _).mono ?_)
  rintro e w3 ⟨A3, c3, rfl, g3, k3⟩
  have rb3 := rb2.below k3 hs2
  have rm3 := rm2.below k3 (by simp)
  have kw3 := below_more kw2 k3 (Nat.le_refl _)
  have G3 := G2.below k3
  clear F2 rb2 rm2 kw2 k3 G2 hs2
  go_wp2_with fail
  (with_reducible refine (F3 _ _ _ g3 G3).mono ?_)
  rintro e w4 ⟨rfl, rfl⟩
  clear F3 g3 G3
  obtain ⟨nc0, nf0, nc1, nf1, nc2, nf2, nc3, nf3, nc4, nf4, nc5, nf5, nc6, nf6, nc7, nf7, nc8, nf8, nc9, nf9, nc10, nf10⟩ := boxC 0 0 0 0 0 0 0 false 0 false 0 rb3
  go_wp2
  refine bodyPost_ret (v := .tuple #[.agg #[.int .i64 0, .int .i64 0, .int .u16 0, .int .u8 0, .int .u8 0, .int .u8 0, .int .u8 0, .bool false, .int .i64 0, .bool false, .int .i64 0], .int .i64 0]) ?_ rfl ⟨rfl, ?_⟩
  · simp [results, Tryz.results73, go_sem, nc0, nc1, nc2, nc3, nc4, nc5, nc6, nc7, nc8, nc9, nc10]
  · repeat first | with_reducible exact kw3 | with_reducible refine below_sc ?_ (Nat.le_refl _) _ | with_reducible refine Below.drew ?_
set_option maxRecDepth 100000 in
set_option maxHeartbeats 2000000 in
theorem dec_yes (A : Option Addr) (l c n : Nat) (zs : List Int) (hl : zs.length = l) (hz : isBytes zs) (hr : rightB (readL zs) = true) (hn : (encL (readL zs)).length = n) (hp : hasP zs (encL (readL zs)) = true) (w : World) (g : Good A c zs w) :
    Calls Tryz.prog 73 #[.slice A l c] w (DecSays (readL zs) n w) := by
  have ok := readL_ok zs hz
  have F1 : ∀ W, Good A c zs W → Calls Tryz.prog 89 #[.slice A l c] W fun e w' => e = .returned (.agg #[.int .i64 (readL zs).kind, .int .i64 (readL zs).tx, .int .u16 (readL zs).mask, .int .u8 (readL zs).k0, .int .u8 (readL zs).k1, .int .u8 (readL zs).k2, .int .u8 (readL zs).k3, .bool (readL zs).oT, .int .i64 (readL zs).oN, .bool (readL zs).nT, .int .i64 (readL zs).nN]) ∧ Below W.heap.size W w' := fun W h => read_any A l c zs hl hz W h
  have HW := Lib.hid (recBox_new w zeroR)
  have gW := g.alloc (.cells #[.int .i64 0, .int .i64 0, .int .u16 0, .int .u8 0, .int .u8 0, .int .u8 0, .int .u8 0, .bool false, .int .i64 0, .bool false, .int .i64 0] 63)
  have F2 : ∀ W, Calls Tryz.prog 70 #[.agg #[.int .i64 (readL zs).kind, .int .i64 (readL zs).tx, .int .u16 (readL zs).mask, .int .u8 (readL zs).k0, .int .u8 (readL zs).k1, .int .u8 (readL zs).k2, .int .u8 (readL zs).k3, .bool (readL zs).oT, .int .i64 (readL zs).oN, .bool (readL zs).nT, .int .i64 (readL zs).nN]] W fun e w' => ∃ A2 c2, e = .returned (.tuple #[.slice A2 n c2, .bool true]) ∧ Good A2 c2 (encL (readL zs)) w' ∧ Below W.heap.size W w' := fun W => by
    refine (enc_yes (readL zs) hr ok W).mono ?_
    rintro e w' ⟨v, rfl, o, k⟩
    obtain ⟨A2, c2, rfl, g2⟩ := o.good
    exact ⟨A2, c2, by rw [hn], g2, k⟩
  have hb3 := (encL_bd (readL zs)).1
  have F3 := fun A2 c2 W g' g => hasPrefix_any A A2 zs (encL (readL zs)) l n c c2 true hl hn hz (encL_bytes _ ok) (by omega) hp W g g'
  generalize encL (readL zs) = es at *
  generalize readL zs = r at *
  have HM := fun W => Lib.hid (recBox_new W r)
  go_enter Tryz.func73, Tryz.ntmps73
  go_wp2_with fail
  (with_reducible refine (F1 _ gW).mono ?_)
  rintro e w1 ⟨rfl, k1⟩
  have rb1 : RecBox w1 w.heap.size zeroR := HW.out.below k1 (by simp)
  have kw1 : Below w.heap.size w w1 := ((Below.refl _ w).alloc (Nat.le_refl _) _).trans (k1.mono (by simp))
  have hs1 : w.heap.size < w1.heap.size := rb1.at_.lt
  have G1 := g.below kw1
  clear HW gW k1 F1
  have rb2 := rb1.below (Below.alloc (Below.refl w1.heap.size w1) (Nat.le_refl _) (.cells #[.int .i64 r.kind, .int .i64 r.tx, .int .u16 r.mask, .int .u8 r.k0, .int .u8 r.k1, .int .u8 r.k2, .int .u8 r.k3, .bool r.oT, .int .i64 r.oN, .bool r.nT, .int .i64 r.nN] 63)) hs1
  have rm2 : RecBox (w1.alloc (.cells #[.int .i64 r.kind, .int .i64 r.tx, .int .u16 r.mask, .int .u8 r.k0, .int .u8 r.k1, .int .u8 r.k2, .int .u8 r.k3, .bool r.oT, .int .i64 r.oN, .bool r.nT, .int .i64 r.nN] 63)) w1.heap.size r := (HM w1).out
  have kw2 : Below w.heap.size w (w1.alloc (.cells #[.int .i64 r.kind, .int .i64 r.tx, .int .u16 r.mask, .int .u8 r.k0, .int .u8 r.k1, .int .u8 r.k2, .int .u8 r.k3, .bool r.oT, .int .i64 r.oN, .bool r.nT, .int .i64 r.nN] 63)) := kw1.alloc kw1.size _
  have G2 := G1.alloc (.cells #[.int .i64 r.kind, .int .i64 r.tx, .int .u16 r.mask, .int .u8 r.k0, .int .u8 r.k1, .int .u8 r.k2, .int .u8 r.k3, .bool r.oT, .int .i64 r.oN, .bool r.nT, .int .i64 r.nN] 63)
  have hs2 : w.heap.size < (w1.alloc (.cells #[.int .i64 r.kind, .int .i64 r.tx, .int .u16 r.mask, .int .u8 r.k0, .int .u8 r.k1, .int .u8 r.k2, .int .u8 r.k3, .bool r.oT, .int .i64 r.oN, .bool r.nT, .int .i64 r.nN] 63)).heap.size := by simp; omega
  clear HM rb1 kw1 G1
  go_wp2_with fail
  (with_reducible refine (F2 _).mono ?_)
  rintro e w3 ⟨A3, c3, rfl, g3, k3⟩
  have rb3 := rb2.below k3 hs2
  have rm3 := rm2.below k3 (by simp)
  have kw3 := below_more kw2 k3 (Nat.le_refl _)
  have G3 := G2.below k3
  clear F2 rb2 rm2 kw2 k3 G2 hs2
  go_wp2_with fail
  (with_reducible refine (F3 _ _ _ g3 G3).mono ?_)
  rintro e w4 ⟨rfl, rfl⟩
  clear F3 g3 G3
  obtain ⟨nc0, nf0, nc1, nf1, nc2, nf2, nc3, nf3, nc4, nf4, nc5, nf5, nc6, nf6, nc7, nf7, nc8, nf8, nc9, nf9, nc10, nf10⟩ := boxC 0 0 0 0 0 0 0 false 0 false 0 rb3
  obtain ⟨mc0, mc1, mc2, mc3, mc4, mc5, mc6, mc7, mc8, mc9, mc10⟩ := boxD r.kind r.tx r.mask r.k0 r.k1 r.k2 r.k3 r.oT r.oN r.nT r.nN rm3
  go_wp2
  refine bodyPost_ret (v := .tuple #[.agg #[.int .i64 r.kind, .int .i64 r.tx, .int .u16 r.mask, .int .u8 r.k0, .int .u8 r.k1, .int .u8 r.k2, .int .u8 r.k3, .bool r.oT, .int .i64 r.oN, .bool r.nT, .int .i64 r.nN], .int .i64 n]) ?_ rfl ⟨rfl, ?_⟩
  · simp [results, Tryz.results73, go_sem, nc0, nc1, nc2, nc3, nc4, nc5, nc6, nc7, nc8, nc9, nc10]
  · repeat first | with_reducible exact kw3 | with_reducible refine below_sc ?_ (Nat.le_refl _) _ | with_reducible refine Below.drew ?_
/-- rec.Decode, at every bytes. -/
theorem dec_any (A : Option Addr) (l c : Nat) (zs : List Int) (hl : zs.length = l) (hz : isBytes zs) (w : World) (g : Good A c zs w) :
    Calls Tryz.prog 73 #[.slice A l c] w (DecSays (decR zs) (decN zs) w) := by
  cases hr : rightB (readL zs) with
  | false =>
    have e : decOK zs = false := by simp [decOK, hr]
    have e1 : decR zs = zeroR := by simp [decR, e]
    have e2 : decN zs = 0 := by simp [decN, e]
    rw [e1, e2]
    exact dec_wrong A l c zs hl hz hr w g
  | true =>
    cases hp : hasP zs (encL (readL zs)) with
    | false =>
      have e : decOK zs = false := by simp [decOK, hr, hp]
      have e1 : decR zs = zeroR := by simp [decR, e]
      have e2 : decN zs = 0 := by simp [decN, e]
      rw [e1, e2]
      exact dec_other A l c _ zs hl hz hr rfl hp w g
    | true =>
      have e : decOK zs = true := by simp [decOK, hr, hp]
      have e1 : decR zs = readL zs := by simp [decR, e]
      have e2 : decN zs = (encL (readL zs)).length := by simp [decN, e]
      rw [e1, e2]
      exact dec_yes A l c _ zs hl hz hr rfl hp w g
end Go.Proofs.YtdmkkfpbgpijjaaGreat
namespace Go.Proofs.YtdmkkfpbgpijjaaGreat
open Go.RowKit Go.Deep
set_option linter.unusedVariables false

/-- A record's cells stand at a place. -/
def RecO (W : World) (b o : Nat) (r : RecD) : Prop := ∀ i v, (recC r)[i]? = some v → W.cell? ⟨b, o + i, none⟩ = some v
theorem RecO.below {W W' : World} {b o B : Nat} {r : RecD} (h : RecO W b o r) (hb : Below B W W') (hB : b < B) : RecO W' b o r := fun i v hv => (hb.cell (p := ⟨b, o + i, none⟩) hB).trans (h i v hv)
def RecsAt (B : Nat) (w : World) (A : Option Addr) (rs : List RecD) : Prop :=
  0 < rs.length → ∃ b off, A = some ⟨b, off, none⟩ ∧ b < B ∧ ∀ j r, rs[j]? = some r → RecO w b (off + j * 11) r
def GoodR (A : Option Addr) (c : Nat) (rs : List RecD) (w : World) : Prop := RecsAt w.heap.size w A rs ∧ rs.length ≤ c ∧ (A = none → c = 0)
theorem GoodR.below {A : Option Addr} {c : Nat} {rs : List RecD} {w w' : World} (h : GoodR A c rs w) (hb : Below w.heap.size w w') : GoodR A c rs w' := by
  refine ⟨fun h0 => ?_, h.2⟩
  obtain ⟨b, off, e, hlt, hc⟩ := h.1 h0
  exact ⟨b, off, e, Nat.lt_of_lt_of_le hlt hb.size, fun j r hr => (hc j r hr).below hb hlt⟩
theorem GoodR.alloc {A : Option Addr} {c : Nat} {rs : List RecD} {w : World} (h : GoodR A c rs w) (o : Obj) : GoodR A c rs (w.alloc o) := h.below ((Below.refl _ _).alloc (Nat.le_refl _) o)
theorem GoodR.drewN {A : Option Addr} {c : Nat} {rs : List RecD} {w : World} (h : GoodR A c rs w) (n : Nat) : GoodR A c rs (w.drewN n) := h.below (below_drewN (Below.refl _ _) n)
theorem GoodR.take {A : Option Addr} {c : Nat} {rs : List RecD} {w : World} (h : GoodR A c rs w) (n : Nat) : GoodR A c (rs.take n) w := by
  refine ⟨fun h0 => ?_, by rw [List.length_take]; have := h.2.1; omega, h.2.2⟩
  have h1 : 0 < rs.length := by rw [List.length_take] at h0; omega
  obtain ⟨b, off, e, hlt, hc⟩ := h.1 h1
  refine ⟨b, off, e, hlt, fun j r hr => hc j r ?_⟩
  rw [List.getElem?_take] at hr
  split at hr
  · exact hr
  · cases hr
/-- The eleven cells of record j. -/
theorem GoodR.cells {A : Option Addr} {c : Nat} {rs : List RecD} {w : World} (h : GoodR A c rs w) (j : Nat) (hj : j < rs.length) : ∃ b off, A = .some ⟨b, off, none⟩ ∧ b < w.heap.size ∧ RecO w b (off + j * 11) rs[j] := by
  obtain ⟨b, off, e, hlt, hc⟩ := h.1 (by omega)
  exact ⟨b, off, e, hlt, hc j rs[j] (List.getElem?_eq_getElem hj)⟩
def OwnsR (B : Nat) (w : World) (v : Value) (rs : List RecD) : Prop := w.ownsRow B 63 11 v rs.length (rs.flatMap recC)
theorem recC_len (r : RecD) : (recC r).length = 11 := rfl
theorem flat_at {α β : Type} (f : α → List β) (s : Nat) : ∀ (xs : List α), (∀ x ∈ xs, (f x).length = s) → ∀ (i : Nat) (x : α), xs[i]? = some x → ∀ j, j < s → (xs.flatMap f)[i * s + j]? = (f x)[j]?
  | [], _, i, x, hx, _, _ => by simp at hx
  | y :: xs, h, 0, x, hx, j, hj => by
    simp at hx; subst hx
    have := h y List.mem_cons_self
    rw [List.flatMap_cons, Nat.zero_mul, Nat.zero_add, List.getElem?_append_left (by omega)]
  | y :: xs, h, i + 1, x, hx, j, hj => by
    have h1 := h y List.mem_cons_self
    have e : (i + 1) * s + j = s + (i * s + j) := by rw [Nat.succ_mul]; omega
    rw [List.flatMap_cons, e, ← h1, List.getElem?_append_right (by omega), Nat.add_sub_cancel_left, h1]
    exact flat_at f s xs (fun z hz => h z (List.mem_cons_of_mem _ hz)) i x (by simpa using hx) j hj
theorem OwnsR.good {B : Nat} {w : World} {v : Value} {rs : List RecD} (h : OwnsR B w v rs) : ∃ A c, v = .slice A rs.length c ∧ GoodR A c rs w := by
  rcases h.2 with ⟨rfl, hn⟩ | ⟨g, cap, cur, rfl, _, hh, hnc, _, hsz, htk⟩
  · have : rs = [] := List.eq_nil_of_length_eq_zero hn
    subst this
    exact ⟨none, 0, rfl, fun h => absurd h (by simp), by simp, fun _ => rfl⟩
  · refine ⟨some ⟨g, 0, none⟩, cap, rfl, fun _ => ⟨g, 0, rfl, (Array.getElem?_eq_some_iff.1 hh).1, fun j r hr i u hu => ?_⟩, hnc, fun e => by cases e⟩
    have hi : i < 11 := by
      rcases Nat.lt_or_ge i 11 with hlt | hge
      · exact hlt
      · rw [List.getElem?_eq_none (by rw [recC_len]; exact hge)] at hu; cases hu
    have hf := flat_at recC 11 rs (fun r _ => recC_len r) j r hr i hi
    have hc := World.ownsRow.cells h (g := g) rfl (j * 11 + i) u (by rw [hf, hu])
    rw [Go.WideShapes.add_plain] at hc
    rw [show 0 + j * 11 + i = 0 + (j * 11 + i) by omega]
    exact hc
theorem OwnsR.below {B : Nat} {w w' : World} {v : Value} {rs : List RecD} (h : OwnsR B w v rs) (hb : Below w.heap.size w w') : OwnsR B w' v rs :=
  World.ownsRow.kept h (row := none) ⟨hb.os, hb.tape, hb.output, hb.size, fun j hj _ => hb.block j hj⟩ (by cases hv : v.ownBlock <;> simp)
theorem OwnsR.base {B B' : Nat} {w : World} {v : Value} {rs : List RecD} (h : OwnsR B w v rs) (hB : B' ≤ B) : OwnsR B' w v rs := by
  refine ⟨h.1, ?_⟩
  rcases h.2 with h | ⟨g, cap, cur, h1, h2, h3⟩
  · exact .inl h
  · exact .inr ⟨g, cap, cur, h1, Nat.le_trans hB h2, h3⟩
theorem ownsR_nil (B : Nat) (w : World) : OwnsR B w (.slice none 0 0) [] := ⟨rfl, .inl ⟨rfl, rfl⟩⟩
set_option maxRecDepth 100000 in
theorem info_rec : (Tryz.prog.info? 63).map (fun i => (i.zero, i.size, i.bytes)) = some (some (.agg (recA zeroR)), 11, 56) := by kernel_rfl
theorem recC_one (r : RecD) : ∀ u ∈ recC r, u.oneCell' = true := by
  intro u hu
  simp only [recC, List.mem_cons, List.not_mem_nil, or_false] at hu
  rcases hu with rfl | rfl | rfl | rfl | rfl | rfl | rfl | rfl | rfl | rfl | rfl <;> rfl
/-- A record appended to records of one's own. -/
theorem wpList_appendR {ops : Array Oper} {rest : List Oper} {o : Oper} {a : Act} {Q : Exit → Act → World → Prop} {W : World} (hgd : o.guard = none) (s x : Operand) (ho : o.op = .call { callee := .builtin .append, args := #[s, x], argTypes := #[33, 33] })
    (base : Nat) (v : Value) (rs : List RecD) (hs : a.eval s = v) (hown : OwnsR base W v rs) (r : RecD) (b c : Nat) (hx : a.eval x = .slice (some ⟨b, 0, none⟩) 1 c) (hb : RecO W b 0 r) (hl : rs.length ≤ 4000) (hbase : base ≤ W.heap.size) (w0 : World) (hbel : Below base w0 W)
    (h : ∀ v' w', OwnsR base w' v' (rs ++ [r]) → Below base w0 w' → wpList Tryz.prog ops Q rest (a.put o.dst v') w') : wpList Tryz.prog ops Q (o :: rest) a W := by
  obtain ⟨i0, hi, hz0, hz1, hz2⟩ := info_parts info_rec
  refine wpList_append_own W hgd s x 33 ho base 63 i0 _ 11 56 Tryz.underlying33 hi hz0 hz1 hz2 rfl (by decide) v rs.length _ hs hown ⟨b, 0, none⟩ 1 c (recC r) hx rfl (fun j u hu => ?_) (recC_one r) (by simp only [maxLen]; omega) (by omega) hbase (fun v' w' hown' hgrow _ => h v' w' ?_ (hbel.grown hgrow hbase (fun k e => (World.ownsRow.lt hown k e).1)))
  · rw [Go.WideShapes.add_plain]
    exact hb j u hu
  · unfold OwnsR
    rw [List.length_append, List.flatMap_append]
    simpa using hown'
theorem recO_new (w : World) (r : RecD) : RecO (w.alloc (.cells (recA r) 63)) w.heap.size 0 r := by
  intro i v hv
  rw [Nat.zero_add, cell_of_row _ w.heap.size i _ 63 (0, 0) (heap_alloc_new w _)]
  simpa [recA, recC] using hv
end Go.Proofs.YtdmkkfpbgpijjaaGreat
namespace Go.Proofs.YtdmkkfpbgpijjaaGreat
open Go.RowKit Go.Deep
set_option linter.unusedVariables false

def AllSays (zs : List Int) (w : World) (e : Ending) (w' : World) : Prop := ∃ k v, Stops zs k ∧ e = .returned (.tuple #[v, .int .i64 ((posN zs k : Nat) : Int)]) ∧ OwnsR w.heap.size w' v (recsN zs k) ∧ Below w.heap.size w w'
set_option maxRecDepth 100000 in
set_option maxHeartbeats 2000000 in
theorem all_any (A : Option Addr) (l c : Nat) (zs : List Int) (hl : zs.length = l) (hl2 : l ≤ 8200) (hz : isBytes zs) (w : World) (g : Good A c zs w) :
    Calls Tryz.prog 61 #[.slice A l c] w (AllSays zs w) := by
  have hlc : l ≤ c := by have := g.2.1; omega
  have HL := Lib.hid hl
  go_enter Tryz.func61, Tryz.ntmps61
  go_wp2
  go_loopw [4, 5] (fun v i wr => ∃ k : Nat, i = .int .i64 ((posN zs k : Nat) : Int) ∧ Goes zs k ∧ OwnsR w.heap.size wr v (recsN zs k) ∧ Below w.heap.size w wr) (fun _ i _ => l - (intOf i).toNat)
  case atStart => exact ⟨0, rfl, (fun i hi => absurd hi (by omega)), ownsR_nil _ _, Below.refl _ _⟩
  case round =>
    obtain ⟨k, rfl, hgo, hown, hbel⟩ := hrel
    have hpl : posN zs k ≤ l := by rw [← hl]; exact posN_le zs k
    have hp3 := posN_ge hgo
    have hnx := Lib.hid (posN_succ zs k)
    have hrx := Lib.hid (recsN_succ zs k)
    have hgx := Lib.hid (fun h => hgo.succ h)
    have hst := Lib.hid (fun h => (show Stops zs k from ⟨hgo, h⟩))
    have hrl := recsN_length zs k
    have hdl : decN (zs.drop (posN zs k)) ≤ l - posN zs k := by have := decN_le (zs.drop (posN zs k)); rwa [List.length_drop, hl] at this
    have hle : (zs.drop (posN zs k)).length = l - posN zs k := by rw [List.length_drop, hl]
    have F1 : ∀ A' c', Good A' c' (zs.drop (posN zs k)) wr → Calls Tryz.prog 73 #[.slice A' (l - posN zs k) c'] wr fun e w' => e = .returned (.tuple #[.agg #[.int .i64 (decR (zs.drop (posN zs k))).kind, .int .i64 (decR (zs.drop (posN zs k))).tx, .int .u16 (decR (zs.drop (posN zs k))).mask, .int .u8 (decR (zs.drop (posN zs k))).k0, .int .u8 (decR (zs.drop (posN zs k))).k1, .int .u8 (decR (zs.drop (posN zs k))).k2, .int .u8 (decR (zs.drop (posN zs k))).k3, .bool (decR (zs.drop (posN zs k))).oT, .int .i64 (decR (zs.drop (posN zs k))).oN, .bool (decR (zs.drop (posN zs k))).nT, .int .i64 (decR (zs.drop (posN zs k))).nN], .int .i64 (decN (zs.drop (posN zs k)) : Nat)]) ∧ Below wr.heap.size wr w' := fun A' c' h => dec_any A' (l - posN zs k) c' (zs.drop (posN zs k)) hle (hz.drop _) wr h
    have gd : ∀ b off, A = some ⟨b, off, none⟩ → Good (some ⟨b, off + posN zs k, none⟩) (c - posN zs k) (zs.drop (posN zs k)) wr := fun b off e => by
      subst e
      exact (g.below hbel).drop (posN zs k) (by omega)
    have gn : posN zs k = l → zs.drop (posN zs k) = [] := fun e => List.drop_of_length_le (by omega)
    generalize decR (zs.drop (posN zs k)) = r at *
    generalize decN (zs.drop (posN zs k)) = n at *
    generalize zs.drop (posN zs k) = ds at *
    generalize hpp : posN zs k = p at *
    have HP := Lib.hid hpp
    clear hpp
    clear hgo hle
    have HRL := Lib.hid hrl
    clear hrl
    cases A with
    | none =>
      obtain ⟨rfl, rfl⟩ := (g.below hbel).none_nil
      have l0 : l = 0 := by have := HL.out; simpa using this.symm
      subst l0
      obtain rfl : p = 0 := by omega
      have e0 := gn rfl
      subst e0
      have n0 : n = 0 := by omega
      subst n0
      have HS := Lib.hid (hst.out rfl)
      clear hst
      have F1' := F1 none 0 (Good.nil wr)
      clear F1 gd gn
      go_wp2_with fail
      (with_reducible refine F1'.mono ?_)
      rintro e w1 ⟨rfl, k1⟩
      have hown1 := hown.below k1
      go_wp2
      go_ret2
      refine ⟨k, _, HS.out, ?_, hown1.below ((Below.refl _ _).alloc (Nat.le_refl _) _), (below_more hbel k1 (Nat.le_refl _)).alloc (below_more hbel k1 (Nat.le_refl _)).size _⟩
      rw [HP.out]; rfl
    | some ad =>
      by_cases hl0 : l = 0
      · subst hl0
        obtain rfl : p = 0 := by omega
        have e0 := gn rfl
        subst e0
        have n0 : n = 0 := by omega
        subst n0
        have HS := Lib.hid (hst.out rfl)
        clear hst gd gn
        have i0 : (0 : Int) ≤ (c : Int) := by omega
        go_wp2_with fail
        refine (F1 _ _ ⟨Ints.nil, by simp, fun e => by cases e⟩).mono ?_
        rintro e w1 ⟨rfl, k1⟩
        have hown1 := hown.below k1
        go_wp2
        go_ret2
        refine ⟨k, _, HS.out, ?_, hown1.below ((Below.refl _ _).alloc (Nat.le_refl _) _), (below_more hbel k1 (Nat.le_refl _)).alloc (below_more hbel k1 (Nat.le_refl _)).size _⟩
        rw [HP.out]; rfl
      obtain ⟨b, off, hab⟩ := g.some (by omega)
      injection hab with hab
      subst hab
      by_cases hce : c = p
      · have hpe : p = l := by omega
        have e0 := gn hpe
        subst e0
        have n0 : n = 0 := by omega
        subst n0
        have HS := Lib.hid (hst.out rfl)
        clear hst
        subst hce
        subst hpe
        rw [Nat.sub_self] at F1
        have F1' := F1 (some ⟨b, off, none⟩) 0 ⟨Ints.nil, by simp, fun e => by cases e⟩
        clear F1 gd gn
        have i0 : (0 : Int) ≤ (c : Int) := by omega
        go_wp2_with fail
        (with_reducible refine F1'.mono ?_)
        rintro e w1 ⟨rfl, k1⟩
        have hown1 := hown.below k1
        go_wp2
        go_ret2
        refine ⟨k, _, HS.out, ?_, hown1.below ((Below.refl _ _).alloc (Nat.le_refl _) _), (below_more hbel k1 (Nat.le_refl _)).alloc (below_more hbel k1 (Nat.le_refl _)).size _⟩
        rw [HP.out]; rfl
      · skip
        have F1' := F1 (some ⟨b, off + p, none⟩) (c - p) (gd b off rfl)
        have i0 : (0 : Int) ≤ (p : Int) := by omega
        have i1 : (p : Int) ≤ (l : Int) := by omega
        have i3 : p ≤ c := by omega
        clear F1 gd gn
        by_cases hn : n = 0
        · subst hn
          have HS := Lib.hid (hst.out rfl)
          clear hst
          go_wp2_with fail
          (with_reducible refine F1'.mono ?_)
          rintro e w1 ⟨rfl, k1⟩
          have hown1 := hown.below k1
          go_wp2
          go_ret2
          refine ⟨k, _, HS.out, ?_, hown1.below ((Below.refl _ _).alloc (Nat.le_refl _) _), (below_more hbel k1 (Nat.le_refl _)).alloc (below_more hbel k1 (Nat.le_refl _)).size _⟩
          rw [HP.out]; rfl
        · have hnb : ((n : Int) == 0) = false := by simp; omega
          go_wp2_with fail
          (with_reducible refine F1'.mono ?_)
          rintro e w1 ⟨rfl, k1⟩
          have hb1 := below_more hbel k1 (Nat.le_refl _)
          have hown1 := (hown.below k1).below ((Below.refl _ _).alloc (Nat.le_refl _) (.cells #[.int .i64 r.kind, .int .i64 r.tx, .int .u16 r.mask, .int .u8 r.k0, .int .u8 r.k1, .int .u8 r.k2, .int .u8 r.k3, .bool r.oT, .int .i64 r.oN, .bool r.nT, .int .i64 r.nN] 63))
          have hb2 : Below w.heap.size w (w1.alloc (.cells #[.int .i64 r.kind, .int .i64 r.tx, .int .u16 r.mask, .int .u8 r.k0, .int .u8 r.k1, .int .u8 r.k2, .int .u8 r.k3, .bool r.oT, .int .i64 r.oN, .bool r.nT, .int .i64 r.nN] 63)) := hb1.alloc hb1.size _
          have hown2 := hown1.below ((Below.refl _ _).alloc (Nat.le_refl _) (.cells #[.int .i64 r.kind, .int .i64 r.tx, .int .u16 r.mask, .int .u8 r.k0, .int .u8 r.k1, .int .u8 r.k2, .int .u8 r.k3, .bool r.oT, .int .i64 r.oN, .bool r.nT, .int .i64 r.nN] 63))
          have hb3 : Below w.heap.size w ((w1.alloc (.cells #[.int .i64 r.kind, .int .i64 r.tx, .int .u16 r.mask, .int .u8 r.k0, .int .u8 r.k1, .int .u8 r.k2, .int .u8 r.k3, .bool r.oT, .int .i64 r.oN, .bool r.nT, .int .i64 r.nN] 63)).alloc (.cells #[.int .i64 r.kind, .int .i64 r.tx, .int .u16 r.mask, .int .u8 r.k0, .int .u8 r.k1, .int .u8 r.k2, .int .u8 r.k3, .bool r.oT, .int .i64 r.oN, .bool r.nT, .int .i64 r.nN] 63)) := hb2.alloc hb2.size _
          have hro : RecO ((w1.alloc (.cells #[.int .i64 r.kind, .int .i64 r.tx, .int .u16 r.mask, .int .u8 r.k0, .int .u8 r.k1, .int .u8 r.k2, .int .u8 r.k3, .bool r.oT, .int .i64 r.oN, .bool r.nT, .int .i64 r.nN] 63)).alloc (.cells #[.int .i64 r.kind, .int .i64 r.tx, .int .u16 r.mask, .int .u8 r.k0, .int .u8 r.k1, .int .u8 r.k2, .int .u8 r.k3, .bool r.oT, .int .i64 r.oN, .bool r.nT, .int .i64 r.nN] 63)) (w1.heap.size + 1) 0 r := by
            have := recO_new (w1.alloc (.cells #[.int .i64 r.kind, .int .i64 r.tx, .int .u16 r.mask, .int .u8 r.k0, .int .u8 r.k1, .int .u8 r.k2, .int .u8 r.k3, .bool r.oT, .int .i64 r.oN, .bool r.nT, .int .i64 r.nN] 63)) r
            rw [show (w1.alloc (.cells #[.int .i64 r.kind, .int .i64 r.tx, .int .u16 r.mask, .int .u8 r.k0, .int .u8 r.k1, .int .u8 r.k2, .int .u8 r.k3, .bool r.oT, .int .i64 r.oN, .bool r.nT, .int .i64 r.nN] 63)).heap.size = w1.heap.size + 1 by simp] at this
            exact this
          have hsz3 := hb3.size
          clear hown1 F1'
          go_wp2_with (at_builtin; refine wpList_appendR rfl _ _ rfl w.heap.size _ _ rfl hown2 r (w1.heap.size + 1) 1 rfl hro (by rw [HRL.out]; omega) hsz3 w hb3 ?_; intro v' w4 hown4 hb4)
          go_roundw
          case rel => exact ⟨k + 1, by rw [hnx.out]; go_num, hgx.out hn, by rw [hrx.out]; exact hown4, hb4⟩
          case measure => simp [intOf]; omega
end Go.Proofs.YtdmkkfpbgpijjaaGreat
namespace Go.Proofs.YtdmkkfpbgpijjaaGreat
open Go.RowKit Go.Deep
set_option linter.unusedVariables false

def JoinSays (rs : List RecD) (w : World) (e : Ending) (w' : World) : Prop :=
  (rs.all rightB = true ∧ ∃ v, e = .returned (.tuple #[v, .bool true]) ∧ Owns w.heap.size w' v (joinL rs) ∧ Below w.heap.size w w') ∨
  (rs.all rightB = false ∧ e = .returned (.tuple #[.slice none 0 0, .bool false]) ∧ Below w.heap.size w w')
theorem owns_nil (B : Nat) (w : World) : Owns B w (.slice none 0 0) [] := ⟨rfl, .inl ⟨rfl, rfl⟩⟩
set_option maxRecDepth 100000 in
set_option maxHeartbeats 2000000 in
theorem join_any (A : Option Addr) (l c : Nat) (rs : List RecD) (hl : rs.length = l) (hl2 : l ≤ 200) (ok : ∀ r ∈ rs, okR r) (w : World) (g : GoodR A c rs w) :
    Calls Tryz.prog 54 #[.slice A l c] w (JoinSays rs w) := by
  have HL := Lib.hid hl
  go_enter Tryz.func54, Tryz.ntmps54
  go_wp2
  go_loopw [4, 11] (fun v i wr => ∃ k : Nat, k ≤ l ∧ i = .int .i64 k ∧ (∀ r ∈ rs.take k, rightB r = true) ∧ Owns w.heap.size wr v (joinL (rs.take k)) ∧ Below w.heap.size w wr) (fun v i _ => l - (intOf i).toNat)
  case atStart => exact ⟨0, Nat.zero_le _, rfl, (fun r hr => by simp at hr), owns_nil _ _, Below.refl _ _⟩
  case round =>
    obtain ⟨k, hk, rfl, hall, hown, hbel⟩ := hrel
    by_cases hlt : k < l
    · have hkl : k < rs.length := by omega
      have hxs := List.take_succ_eq_append_getElem hkl
      have hmem : rs[k] ∈ rs := List.getElem_mem hkl
      have okr := ok _ hmem
      obtain ⟨b, off, rfl, hbl, hro⟩ := (g.below hbel).cells k hkl
      have hjl := joinL_le (rs.take k)
      rw [List.length_take] at hjl
      have hjs := Lib.hid (joinL_snoc (rs.take k) rs[k])
      have hal := Lib.hid (fun h => (show ∀ r ∈ rs.take (k + 1), rightB r = true from fun r hr => by
        rw [hxs] at hr
        rcases List.mem_append.1 hr with hr | hr
        · exact hall r hr
        · simp at hr; subst hr; exact h))
      have hno := Lib.hid (fun (h : rightB rs[k] = false) => (show rs.all rightB = false by
        rw [Bool.eq_false_iff]
        intro e
        rw [List.all_eq_true] at e
        rw [e _ hmem] at h
        cases h))
      have HX := Lib.hid hxs
      clear hxs hmem hall
      generalize hr0 : rs[k] = r at *
      clear hr0 hkl
      have q0 : wr.cell? ⟨b, off + k * 11, none⟩ = some (.int .i64 r.kind) := hro 0 _ rfl
      have q1 : wr.cell? ⟨b, off + k * 11 + 1, none⟩ = some (.int .i64 r.tx) := hro 1 _ rfl
      have q2 : wr.cell? ⟨b, off + k * 11 + 2, none⟩ = some (.int .u16 r.mask) := hro 2 _ rfl
      have q3 : wr.cell? ⟨b, off + k * 11 + 3, none⟩ = some (.int .u8 r.k0) := hro 3 _ rfl
      have q4 : wr.cell? ⟨b, off + k * 11 + 4, none⟩ = some (.int .u8 r.k1) := hro 4 _ rfl
      have q5 : wr.cell? ⟨b, off + k * 11 + 5, none⟩ = some (.int .u8 r.k2) := hro 5 _ rfl
      have q6 : wr.cell? ⟨b, off + k * 11 + 6, none⟩ = some (.int .u8 r.k3) := hro 6 _ rfl
      have q7 : wr.cell? ⟨b, off + k * 11 + 7, none⟩ = some (.bool r.oT) := hro 7 _ rfl
      have q8 : wr.cell? ⟨b, off + k * 11 + 8, none⟩ = some (.int .i64 r.oN) := hro 8 _ rfl
      have q9 : wr.cell? ⟨b, off + k * 11 + 9, none⟩ = some (.bool r.nT) := hro 9 _ rfl
      have q10 : wr.cell? ⟨b, off + k * 11 + 10, none⟩ = some (.int .i64 r.nN) := hro 10 _ rfl
      clear hro
      cases hr : rightB r with
      | false =>
        have F1 : ∀ W, Calls Tryz.prog 70 #[.agg #[.int .i64 r.kind, .int .i64 r.tx, .int .u16 r.mask, .int .u8 r.k0, .int .u8 r.k1, .int .u8 r.k2, .int .u8 r.k3, .bool r.oT, .int .i64 r.oN, .bool r.nT, .int .i64 r.nN]] W fun e w' => e = .returned (.tuple #[.slice none 0 0, .bool false]) ∧ Below W.heap.size W w' := fun W => enc_no r hr W
        have HN := Lib.hid (hno.out hr)
        clear hno hal
        go_wp2_with fail
        (with_reducible refine (F1 _).mono ?_)
        rintro e w1 ⟨rfl, k1⟩
        go_wp2
        go_ret2
        exact .inr ⟨HN.out, rfl, below_more (hbel.alloc hbel.size _) k1 (Nat.le_refl _)⟩
      | true =>
        have F1 : ∀ W, Calls Tryz.prog 70 #[.agg #[.int .i64 r.kind, .int .i64 r.tx, .int .u16 r.mask, .int .u8 r.k0, .int .u8 r.k1, .int .u8 r.k2, .int .u8 r.k3, .bool r.oT, .int .i64 r.oN, .bool r.nT, .int .i64 r.nN]] W fun e w' => ∃ A2 c2, e = .returned (.tuple #[.slice A2 (encL r).length c2, .bool true]) ∧ Good A2 c2 (encL r) w' ∧ Below W.heap.size W w' := fun W => by
          refine (enc_yes r hr okr W).mono ?_
          rintro e w' ⟨v, rfl, o, k⟩
          obtain ⟨A2, c2, rfl, g2⟩ := o.good
          exact ⟨A2, c2, rfl, g2, k⟩
        have hel := (encL_bd r).2
        have HA := Lib.hid (hal.out hr)
        clear hno hal
        obtain ⟨n, hn⟩ : ∃ n, (encL r).length = n := ⟨_, rfl⟩
        rw [hn] at F1 hel
        have HN := Lib.hid hn
        clear hn
        generalize encL r = es at *
        generalize hjj : joinL (rs.take k) = js at *
        have HJ := Lib.hid hjj
        clear hjj
        go_wp2_with fail
        (with_reducible refine (F1 _).mono ?_)
        rintro e w1 ⟨A1, c1, rfl, g1, k1⟩
        have hown1 := (hown.below ((Below.refl _ _).alloc (Nat.le_refl _) (.cells #[.int .i64 r.kind, .int .i64 r.tx, .int .u16 r.mask, .int .u8 r.k0, .int .u8 r.k1, .int .u8 r.k2, .int .u8 r.k3, .bool r.oT, .int .i64 r.oN, .bool r.nT, .int .i64 r.nN] 63))).below k1
        have hb1 : Below w.heap.size w w1 := below_more (hbel.alloc hbel.size _) k1 (Nat.le_refl _)
        clear F1
        go_wp2_with (at_builtin; refine wpList_appendB rfl _ _ rfl w.heap.size _ js rfl hown1 A1 es n c1 rfl HN.out g1 (by rw [HN.out]; omega) hb1.size w hb1 ?_; intro v' w2 hown2 hb2)
        go_roundw
        case rel => exact ⟨k + 1, by omega, by go_num, HA.out, by rw [HX.out, hjs.out]; exact hown2, hb2⟩
        case measure => simp [intOf]; omega
    · obtain rfl : k = l := by omega
      have e1 : rs.take k = rs := by rw [← HL.out, List.take_length]
      rw [e1] at hall hown
      have HA := Lib.hid (show rs.all rightB = true by rw [List.all_eq_true]; exact hall)
      clear hall e1
      go_wp2
      go_ret2
      exact .inl ⟨HA.out, _, rfl, hown, hbel⟩
end Go.Proofs.YtdmkkfpbgpijjaaGreat
namespace Go.Proofs.YtdmkkfpbgpijjaaGreat
open Go.RowKit

theorem ret_int {k : IntKind} {a b : Int} (h : a = b) : Ending.returned (.int k a) = .returned (.int k b) := by rw [h]

set_option maxRecDepth 100000 in
set_option maxHeartbeats 400000 in
theorem refZig_any (n : Int) (b1 : -9223372036854775808 ≤ n ∧ n ≤ 9223372036854775807) (w : World) :
    Calls Tryz.prog 94 #[.int .i64 n] w fun e w' => e = .returned (.int .u64 (zigI n)) ∧ w = w' := by
  obtain ⟨h1, h2⟩ := b1
  unfold zigI
  by_cases h : n < 0
  · go_enter Tryz.func94, Tryz.ntmps94
    go_wp2
    go_ret
    exact ⟨ret_int (by omega), rfl⟩
  · go_enter Tryz.func94, Tryz.ntmps94
    go_wp2
    go_ret
    exact ⟨ret_int (by omega), rfl⟩

set_option maxRecDepth 100000 in
set_option maxHeartbeats 400000 in
theorem refZag_any (u : Nat) (hu : u < 18446744073709551616) (w : World) :
    Calls Tryz.prog 92 #[.int .u64 u] w fun e w' => e = .returned (.int .i64 (zagI u)) ∧ w = w' := by
  have hz := Lib.hid (show (u % 2 = 1 → zagI u = -((u / 2 : Nat) : Int) - 1) ∧ (u % 2 ≠ 1 → zagI u = ((u / 2 : Nat) : Int)) from ⟨fun h => by unfold zagI; rw [if_pos h], fun h => by unfold zagI; rw [if_neg h]⟩)
  generalize zagI u = z at *
  by_cases h : u % 2 = 1
  · have hb : ((u : Int) % 2 == 1) = true := by simp; omega
    have HZ := Lib.hid (hz.out.1 h)
    clear h hz
    go_enter Tryz.func92, Tryz.ntmps92
    go_wp2
    go_ret
    exact ⟨ret_int (by have := HZ.out; omega), rfl⟩
  · have hb : ((u : Int) % 2 == 1) = false := by simp; omega
    have HZ := Lib.hid (hz.out.2 h)
    clear h hz
    go_enter Tryz.func92, Tryz.ntmps92
    go_wp2
    go_ret
    exact ⟨ret_int (by have := HZ.out; omega), rfl⟩

theorem from_step (r : Nat) (z : Int) (h0 : 0 ≤ z) (h1 : z < 256) (h2 : r * 256 + z.toNat < 18446744073709551616) : IntKind.u64.wrap (IntKind.u64.wrap ((r : Int) * 256) + z) = ((r * 256 + z.toNat : Nat) : Int) := by
  rw [IntKind.wrap_u64, IntKind.wrap_u64]; omega
theorem fromN_drop (zs : List Int) (m : Nat) (h : m < zs.length) : fromN (zs.drop m) = fromN (zs.drop (m + 1)) * 256 + (zs[m]?.getD 0).toNat := by
  rw [List.drop_eq_getElem_cons h, fromN_cons]
  simp [h]; omega
theorem fromN_small (zs : List Int) (hz : isBytes zs) (hl : zs.length ≤ 8) (m : Nat) : fromN (zs.drop m) < 18446744073709551616 := by
  have h := fromN_lt (zs.drop m) (fun y hy => hz y (List.mem_of_mem_drop hy))
  have : 256 ^ (zs.drop m).length ≤ 256 ^ 8 := Nat.pow_le_pow_right (by decide) (by rw [List.length_drop]; omega)
  omega

set_option maxRecDepth 100000 in
set_option maxHeartbeats 1000000 in
theorem refFrom_core (A : Option Addr) (zs : List Int) (c l q : Nat) (hll : zs.length = l) (hz : isBytes zs) (hl : l ≤ 8) (w : World) (h : Ints .u8 w.heap.size w A zs) (H : Hid (fromN zs = q)) :
    Calls Tryz.prog 91 #[.slice A l c] w fun e w' => e = .returned (.tuple #[.int .u64 (q : Int), .bool true]) ∧ w = w' := by
  have HL := Lib.hid hll
  clear hll
  go_enter Tryz.func91, Tryz.ntmps91
  go_wp2
  go_loop [4, 5] (fun r i => ∃ m : Nat, m ≤ l ∧ i = .int .i64 ((m : Int) - 1) ∧ r = .int .u64 ((fromN (zs.drop m) : Nat) : Int)) (fun _ i => (intOf i + 1).toNat)
  case atStart => exact ⟨l, Nat.le_refl _, rfl, by rw [← HL.out, List.drop_length]; rfl⟩
  case round =>
    obtain ⟨m, hm, hi, rfl⟩ := hrel
    cases m with
    | zero =>
      rw [show ((0 : Nat) : Int) - 1 = -1 by omega] at hi
      subst hi
      rw [List.drop_zero, H.out]
      go_wp2
      go_ret2
      exact ⟨rfl, rfl⟩
    | succ m =>
      rw [show ((m + 1 : Nat) : Int) - 1 = (m : Int) by omega] at hi
      subst hi
      obtain ⟨b, off, rfl, hb, hc⟩ := h (by have := HL.out; omega)
      have hck := hc m (by have := HL.out; omega)
      have hzz := isBytes_at zs hz m
      have hn := Lib.hid (fromN_drop zs m (by have := HL.out; omega))
      have hsm := fromN_small zs hz (by have := HL.out; omega) m
      rw [hn.out] at hsm
      clear hc
      generalize zs[m]?.getD 0 = z at *
      generalize fromN (zs.drop (m + 1)) = r at *
      have hw := from_step r z hzz.1 hzz.2 hsm
      have HM := Lib.hid hsm
      clear hsm
      obtain ⟨hz1, hz2⟩ := hzz
      generalize hqq : r * 256 + z.toNat = q' at *
      have hml : m < l := by omega
      clear hqq
      go_wp2
      go_round
      case rel => exact ⟨m, by omega, rfl, by rw [hn.out]⟩
      case measure => simp [intOf]
end Go.Proofs.YtdmkkfpbgpijjaaGreat
