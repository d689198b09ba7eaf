/- The document's own table: may, Waits. -/
import Derived.Test.YtnfodidfhnofkaaIc
namespace Go.Proofs.Ytnfodidfhnofkaa
open Go.RowKit Go.Deep Go.Maps Go.Lib

/-- The cells of a hold, in memory of their own. -/
def HoldC (w : World) (b : Nat) (h : RHold) : Prop := w.heap[b]? = some (.cells (hq h).toArray 74 (0, 0))
theorem HoldC.lt {w : World} {b : Nat} {h : RHold} (hh : HoldC w b h) : b < w.heap.size := (Array.getElem?_eq_some_iff.1 hh).1
theorem HoldC.still {w w' : World} {b : Nat} {h : RHold} (hh : HoldC w b h) (hb : Below w.heap.size w w') : HoldC w' b h := (hb.block b hh.lt).trans hh
theorem HoldC.cells {w : World} {b : Nat} {h : RHold} (hh : HoldC w b h) :
    w.cell? ⟨b, 0, none⟩ = some (.int .i64 h.tx) ∧ w.cell? ⟨b, 1, none⟩ = some (.int .u8 (h.key.a.val : Int)) ∧ w.cell? ⟨b, 2, none⟩ = some (.int .u8 (h.key.b.val : Int)) ∧ w.cell? ⟨b, 3, none⟩ = some (.int .u8 (h.key.c.val : Int)) ∧ w.cell? ⟨b, 4, none⟩ = some (.int .u8 (h.key.d.val : Int)) ∧ w.cell? ⟨b, 5, none⟩ = some (.bool h.ex) ∧ w.cell? ⟨b, 6, none⟩ = some (.int .i64 h.since) ∧ w.cell? ⟨b, 7, none⟩ = some (.bool h.rises) := by
  have hk : w.heap[b]? = some (.cells (hq h).toArray 74 (0, 0)) := hh
  refine ⟨?_, ?_, ?_, ?_, ?_, ?_, ?_, ?_⟩ <;> simp only [World.cell?, hk] <;> rfl
def holdO (h : RHold) : Obj := .cells #[.int .i64 h.tx, .int .u8 (h.key.a.val : Int), .int .u8 (h.key.b.val : Int), .int .u8 (h.key.c.val : Int), .int .u8 (h.key.d.val : Int), .bool h.ex, .int .i64 h.since, .bool h.rises] 74
theorem HoldC.new (w : World) (h : RHold) : HoldC (w.alloc (holdO h)) w.heap.size h := heap_alloc_new w _
theorem any_drop {α : Type} {l : List α} {j : Nat} {x : α} (hx : l[j]? = some x) (p : α → Bool) : (l.drop j).any p = (p x || (l.drop (j + 1)).any p) := by
  obtain ⟨hl, rfl⟩ := List.getElem?_eq_some_iff.1 hx
  rw [List.drop_eq_getElem_cons hl, List.any_cons]
set_option maxRecDepth 100000 in
set_option maxHeartbeats 4000000 in
theorem refMay_any (F : Nat → Prop) (tb m : Nat) (rs : RS) (x : RHold) (b : Bool) (w : World) (h : RefAt w F tb m rs) (hm : m ≤ 1000) (hr : mayQ rs.holds x = b) :
    Calls Try.prog 40 #[.pointer (some ⟨tb, 0, none⟩), HQ x] w fun e w' => e = .returned (.bool b) ∧ Below w.heap.size w w' := by
  obtain ⟨hv, qv, h⟩ := h
  have HT := Lib.hid h
  obtain ⟨A, c, rfl⟩ := h.hrow.slice
  obtain ⟨N, hN⟩ : ∃ N, rs.holds.length = N := ⟨_, rfl⟩
  have hNm : N ≤ 1000 := by have := h.len; omega
  rw [hN] at h HT
  have HN := Lib.hid hN
  obtain ⟨nb, hnb⟩ : ∃ nb, rs.holds.any (againstQ x) = nb := ⟨_, rfl⟩
  obtain rfl : b = !nb := by rw [← hr, ← hnb]; rfl
  have HR := Lib.hid (show (rs.holds.drop 0).any (againstQ x) = nb by rw [List.drop_zero]; exact hnb)
  have tl := h.tbl
  have hbV : Below w.heap.size w (w.alloc (holdO x)) := (Below.refl _ w).alloc (Nat.le_refl _) _
  have hkV := HoldC.new w x
  clear hN hr hnb
  rw [HQ_def]
  go_enter Try.func40, Try.ntmps40
  go_wp2_with fail
  change Code.wp _ _ _ _ (w.alloc (holdO x))
  generalize (w.alloc (holdO x)) = V at *
  have HTV := Lib.hid (HT.out.below hbV)
  have HBV := Lib.hid hbV
  have HSV := Lib.hid hbV.size
  have HKV := Lib.hid hkV
  clear h hbV hkV tl
  go_loopg [5] N (fun gg s5 wq => ∃ j : Nat, j ≤ N ∧ N - j ≤ gg ∧ s5 = .int .i64 j ∧ Hid ((rs.holds.drop j).any (againstQ x) = nb) ∧ Hid (Below V.heap.size V wq))
  case atStart => exact ⟨0, Nat.zero_le _, by omega, rfl, HR, Lib.hid (Below.refl _ _)⟩
  case round =>
    obtain ⟨j, hj, hgj, rfl, HRj, HB⟩ := hrel
    have c1 := (HTV.out.below HB.out).c1
    have tl := (HTV.out.below HB.out).tbl
    by_cases hjl : j < N
    · have hjz : (j : Int) < (N : Int) := by omega
      obtain ⟨y, hy⟩ : ∃ y, rs.holds[j]? = some y := ⟨_, List.getElem?_eq_getElem (by have := HN.out; omega)⟩
      obtain ⟨g, rfl, -, hgl, hNc⟩ := (HTV.out.below HB.out).hrow.at (by have := HN.out; omega)
      obtain ⟨y0, y1, y2, y3, y4, y5, y6, y7⟩ := (HTV.out.below HB.out).hrow.cells hy
      have hKW := (HKV.out.still HB.out).still ((Below.refl _ wr).alloc (Nat.le_refl _) (holdO y))
      obtain ⟨q0, q1, q2, q3, q4, q5, q6, q7⟩ := hKW.cells
      have hkl2 := hKW.lt
      have hYW := HoldC.new wr y
      obtain ⟨d0, d1, d2, d3, d4, d5, d6, d7⟩ := hYW.cells
      have hyl := hYW.lt
      have HB2 := Lib.hid (HB.out.alloc HB.out.size (holdO y))
      have heq := fun W => run_eqlKey y.key x.key W
      simp only [KV_def] at heq
      have HD := Lib.hid (any_drop hy (againstQ x))
      rw [HRj.out] at HD
      obtain ⟨rest, hrest⟩ : ∃ q, (rs.holds.drop (j + 1)).any (againstQ x) = q := ⟨_, rfl⟩
      rw [hrest] at HD
      have HRE := Lib.hid hrest
      simp only [holdO] at q0 q1 q2 q3 q4 q5 q6 q7 hkl2 d0 d1 d2 d3 d4 d5 d6 d7 hyl HB2
      clear hy hKW hYW hrest
      unfold againstQ at HD
      by_cases hk : y.key = x.key
      · have e1 : decide (y.key = x.key) = true := decide_eq_true hk
        rw [e1, Bool.true_and] at HD
        simp only [e1] at heq
        clear hk e1
        by_cases ht : y.tx = x.tx
        · have e2 : (y.tx != x.tx) = false := by simp [ht]
          rw [e2, Bool.false_and, Bool.false_or] at HD
          clear ht
          go_wp2_with fail
          go_roundg (N - (j + 1))
          case measure => omega
          case rel => exact ⟨j + 1, by omega, by omega, by go_num, Lib.hid (by rw [HRE.out]; exact HD.out.symm), HB2⟩
        · have e2 : (y.tx != x.tx) = true := by simpa using ht
          rw [e2, Bool.true_and] at HD
          clear ht
          generalize y.ex = ya at *
          generalize x.ex = xa at *
          cases ya with
          | true =>
            obtain rfl : nb = true := HD.out
            go_wp2_with fail
            go_ret
            exact ⟨rfl, HBV.out.trans (HB2.out.mono HSV.out)⟩
          | false =>
            cases xa with
            | true =>
              obtain rfl : nb = true := HD.out
              go_wp2_with fail
              go_ret
              exact ⟨rfl, HBV.out.trans (HB2.out.mono HSV.out)⟩
            | false =>
              go_wp2_with fail
              go_roundg (N - (j + 1))
              case measure => omega
              case rel => exact ⟨j + 1, by omega, by omega, by go_num, Lib.hid (by rw [HRE.out]; exact HD.out.symm), HB2⟩
      · have e1 : decide (y.key = x.key) = false := decide_eq_false hk
        rw [e1, Bool.false_and, Bool.false_or] at HD
        simp only [e1] at heq
        clear hk e1
        go_wp2_with fail
        go_roundg (N - (j + 1))
        case measure => omega
        case rel => exact ⟨j + 1, by omega, by omega, by go_num, Lib.hid (by rw [HRE.out]; exact HD.out.symm), HB2⟩
    · obtain rfl : j = N := by omega
      have hr : (rs.holds.drop j).any (againstQ x) = nb := HRj.out
      rw [List.drop_eq_nil_of_le (by have := HN.out; omega)] at hr
      obtain rfl : nb = false := hr.symm
      clear hr
      go_wp2_with fail
      go_ret
      exact ⟨rfl, HBV.out.trans (HB.out.mono HSV.out)⟩
end Go.Proofs.Ytnfodidfhnofkaa
