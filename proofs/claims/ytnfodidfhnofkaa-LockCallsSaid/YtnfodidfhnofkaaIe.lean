/- The document's own table: Waits. -/
import Derived.Test.YtnfodidfhnofkaaId
namespace Go.Proofs.Ytnfodidfhnofkaa
open Go.RowKit Go.Deep Go.Maps Go.Lib

def keyQ (o : Option KeyT) : KeyT := o.getD ⟨0, 0, 0, 0⟩
theorem waitsQ_drop {l : List RHold} {j : Nat} {x : RHold} (hx : l[j]? = some x) (tx : Int) : waitsQ (l.drop j) tx = if x.tx = tx then some x.key else waitsQ (l.drop (j + 1)) tx := by
  obtain ⟨hl, rfl⟩ := List.getElem?_eq_some_iff.1 hx
  rw [List.drop_eq_getElem_cons hl]
  rfl
theorem KeyC.fz {w : World} {kb : Nat} {k : KeyT} (h : KeyC w kb k) (i : Nat) : w.frozen? ⟨kb, i, none⟩ = false := by
  have hk : w.heap[kb]? = some (.cells (kv k).toArray 24 (0, 0)) := h
  simp [World.frozen?, hk]
set_option maxRecDepth 100000 in
set_option maxHeartbeats 4000000 in
theorem refWaits_any (F : Nat → Prop) (tb m : Nat) (rs : RS) (tx : Int) (o : Option KeyT) (w : World) (h : RefAt w F tb m rs) (hm : m ≤ 1000) (hr : waitsQ rs.queue tx = o) :
    Calls Try.prog 20 #[.pointer (some ⟨tb, 0, none⟩), .int .i64 tx] w fun e w' => e = .returned (.tuple #[KV (keyQ o), .bool o.isSome]) ∧ Below w.heap.size w w' := by
  obtain ⟨hv, qv, h⟩ := h
  have HT := Lib.hid h
  obtain ⟨A, c, rfl⟩ := h.qrow.slice
  obtain ⟨N, hN⟩ : ∃ N, rs.queue.length = N := ⟨_, rfl⟩
  have hNm : N ≤ 1000 := by have := h.len; omega
  rw [hN] at h HT
  have HN := Lib.hid hN
  have HR := Lib.hid hr
  have tl := h.tbl
  have hbV : Below w.heap.size w (w.alloc (.cells #[.int .u8 0, .int .u8 0, .int .u8 0, .int .u8 0] 24)) := (Below.refl _ w).alloc (Nat.le_refl _) _
  have hkV : KeyC (w.alloc (.cells #[.int .u8 0, .int .u8 0, .int .u8 0, .int .u8 0] 24)) w.heap.size ⟨0, 0, 0, 0⟩ := heap_alloc_new w _
  clear hN hr
  go_enter Try.func20, Try.ntmps20
  go_wp2_with fail
  generalize (w.alloc (.cells #[.int .u8 0, .int .u8 0, .int .u8 0, .int .u8 0] 24)) = V at *
  have HTV := Lib.hid (HT.out.below hbV)
  have HBV := Lib.hid hbV
  have HSV := Lib.hid hbV.size
  have HKV := Lib.hid hkV
  clear h hbV hkV tl
  go_loopg [6] N (fun gg s6 wq => ∃ j : Nat, j ≤ N ∧ N - j ≤ gg ∧ s6 = .int .i64 j ∧ Hid (waitsQ (rs.queue.drop j) tx = o) ∧ Hid (Below V.heap.size V wq))
  case atStart => exact ⟨0, Nat.zero_le _, by omega, rfl, HR, Lib.hid (Below.refl _ _)⟩
  case round =>
    obtain ⟨j, hj, hgj, rfl, HRj, HB⟩ := hrel
    have c1 := (HTV.out.below HB.out).c2
    have tl := (HTV.out.below HB.out).tbl
    obtain ⟨q0, q1, q2, q3⟩ := (HKV.out.still HB.out).cells
    have hkl := (HKV.out.still HB.out).lt
    have f0 := (HKV.out.still HB.out).fz 0
    have f1 := (HKV.out.still HB.out).fz 1
    have f2 := (HKV.out.still HB.out).fz 2
    have f3 := (HKV.out.still HB.out).fz 3
    by_cases hjl : j < N
    · have hjz : (j : Int) < (N : Int) := by omega
      obtain ⟨x, hx⟩ : ∃ x, rs.queue[j]? = some x := ⟨_, List.getElem?_eq_getElem (by have := HN.out; omega)⟩
      obtain ⟨g, rfl, -, hgl, hNc⟩ := (HTV.out.below HB.out).qrow.at (by have := HN.out; omega)
      obtain ⟨x0, x1, x2, x3, x4, x5, x6, x7⟩ := (HTV.out.below HB.out).qrow.cells hx
      have hd := waitsQ_drop hx tx
      rw [HRj.out] at hd
      have HD := Lib.hid hd
      clear hx hd
      by_cases hxt : x.tx = tx
      · have e1 : (x.tx == tx) = true := by simp [hxt]
        rw [if_pos hxt] at HD
        obtain rfl : o = some x.key := HD.out
        clear hxt
        go_wp2_with fail
        refine bodyPost_ret (v := .tuple #[.agg #[.int .u8 (x.key.a.val : Int), .int .u8 (x.key.b.val : Int), .int .u8 (x.key.c.val : Int), .int .u8 (x.key.d.val : Int)], .bool true]) ?_ rfl ⟨rfl, ((((HBV.out.trans (HB.out.mono HSV.out)).setCell (Nat.le_refl _) _).setCell (Nat.le_refl _) _).setCell (Nat.le_refl _) _).setCell (Nat.le_refl _) _⟩
        rw [results_cell_tmp rfl]
        go_simp
      · have e1 : (x.tx == tx) = false := by simpa using hxt
        rw [if_neg hxt] at HD
        clear hxt
        go_wp2_with fail
        go_roundg (N - (j + 1))
        case measure => omega
        case rel => exact ⟨j + 1, by omega, by omega, by go_num, Lib.hid HD.out.symm, HB⟩
    · obtain rfl : j = N := by omega
      have hr : waitsQ (rs.queue.drop j) tx = o := HRj.out
      rw [List.drop_eq_nil_of_le (by have := HN.out; omega)] at hr
      obtain rfl : o = none := hr.symm
      clear hr
      go_wp2_with fail
      refine bodyPost_ret (v := .tuple #[.agg #[.int .u8 0, .int .u8 0, .int .u8 0, .int .u8 0], .bool false]) ?_ rfl ⟨rfl, ((((HBV.out.trans (HB.out.mono HSV.out)).setCell (Nat.le_refl _) _).setCell (Nat.le_refl _) _).setCell (Nat.le_refl _) _).setCell (Nat.le_refl _) _⟩
      rw [results_cell_tmp rfl]
      go_simp
end Go.Proofs.Ytnfodidfhnofkaa
