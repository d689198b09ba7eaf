/- The document's own table: Late, Txs; keys compared. -/
import Derived.Test.YtnfodidfhnofkaaIm
namespace Go.Proofs.Ytnfodidfhnofkaa
open Go.RowKit Go.Deep Go.Maps Go.Lib

def IntsQ (w w' : World) (e : Ending) (P : Int → Prop) : Prop := ∃ v out, e = .returned v ∧ ERow eltI w.heap.size w' v out ∧ SortedN out ∧ (∀ k, k ∈ out ↔ P k) ∧ Below w.heap.size w w'
theorem row_in {W : World} {B n c : Nat} {A : Option Addr} {l : List RHold} (h : ERow eltQ B W (.slice A n c) l) : ∀ w', Below W.heap.size W w' → EIn eltQ w' A l := fun _ hb => ERow.in_all (h.below hb)
def lateQ (wait now : Int) (h : RHold) : Bool := decide (h.since + wait ≤ now)
set_option maxRecDepth 100000 in
set_option maxHeartbeats 4000000 in
theorem refLate_any (F : Nat → Prop) (tb m : Nat) (rs : RS) (now : Int) (w : World) (h : RefAt w F tb m rs) (hm : m ≤ 1000) (hq : ∀ x ∈ rs.queue, 1 ≤ x.tx ∧ 0 ≤ x.since ∧ x.since ≤ 1099511627776) (hw : 1 ≤ rs.wait ∧ rs.wait ≤ 1000) :
    Calls Try.prog 32 #[.pointer (some ⟨tb, 0, none⟩), .int .i64 now] w fun e w' => IntsQ w w' e (fun t => ∃ x ∈ rs.queue, lateQ rs.wait now x = true ∧ x.tx = t) := by
  obtain ⟨hv, qv, h⟩ := h
  obtain ⟨A, c, rfl⟩ := h.qrow.slice
  obtain ⟨N, hN⟩ : ∃ N, rs.queue.length = N := ⟨_, rfl⟩
  have hNm : N ≤ 1000 := by have := h.len; omega
  rw [hN] at h
  have HI := Lib.hid h
  have HN := Lib.hid hN
  have HQ := Lib.hid hq
  have HW := Lib.hid hw
  have HMD := Lib.hid (show ERow eltQ w.heap.size (w.alloc (.cells #[] 74)) (.slice (some ⟨w.heap.size, 0, none⟩) 0 0) [] from ERow.made eltQ w.heap.size w (Nat.le_refl _))
  have HB0 := Lib.hid (show Below w.heap.size w (w.alloc (.cells #[] 74)) from (Below.refl _ w).alloc (Nat.le_refl _) _)
  clear h hN hq hw
  go_enter Try.func32, Try.ntmps32
  go_wp2_with fail
  go_loopg [5, 6] N (fun gg s5 s6 wq => ∃ j : Nat, j ≤ N ∧ N - j ≤ gg ∧ s6 = .int .i64 j ∧ Hid (ERow eltQ w.heap.size wq s5 ((rs.queue.take j).filter (lateQ rs.wait now))) ∧ Hid (Below w.heap.size w wq))
  case atStart => exact ⟨0, Nat.zero_le _, by omega, rfl, Lib.hid (by rw [List.take_zero]; exact HMD.out), HB0⟩
  case round =>
    obtain ⟨j, hj, hgj, rfl, HR, HB⟩ := hrel
    have c2 := (HI.out.below HB.out).c2
    have c0 := (HI.out.below HB.out).c0
    have tl := (HI.out.below HB.out).tbl
    have hsz := HB.out.size
    by_cases hjl : j < N
    · have hjz : (j : Int) < (N : Int) := by omega
      obtain ⟨y, hy⟩ : ∃ y, rs.queue[j]? = some y := ⟨_, List.getElem?_eq_getElem (by have := HN.out; omega)⟩
      obtain ⟨g, rfl, -, hgl, hNc⟩ := (HI.out.below HB.out).qrow.at (by have := HN.out; omega)
      obtain ⟨y0, y1, y2, y3, y4, y5, y6, y7⟩ := (HI.out.below HB.out).qrow.cells hy
      have HFS := Lib.hid (filter_snoc hy (lateQ rs.wait now))
      have hfl := filter_take_len rs.queue j (lateQ rs.wait now)
      have hqy := HQ.out y (List.mem_of_getElem? hy)
      have hwr : IntKind.i64.wrap (y.since + rs.wait) = y.since + rs.wait := by rw [IntKind.wrap_i64]; have := HW.out; omega
      clear hy hqy
      by_cases ht : y.since + rs.wait ≤ now
      · have e1 : decide (y.since + rs.wait ≤ now) = true := decide_eq_true ht
        have HF2 := Lib.hid (show (rs.queue.take (j + 1)).filter (lateQ rs.wait now) = (rs.queue.take j).filter (lateQ rs.wait now) ++ [y] by rw [HFS.out]; unfold lateQ; rw [e1]; rfl)
        clear e1 HFS
        go_wp2_with fail
        go_quiet (fail)
        have hbd : Below wr.heap.size wr (wr.drewN nq) := below_drewN (Below.refl _ wr) _
        have HRd := Lib.hid (HR.out.below hbd)
        have HBd := Lib.hid (HB.out.trans (hbd.mono hsz))
        clear hbd
        go_wp2_with (first
          | (at_builtin; refine wpList_appendE eltQ _ rfl _ _ rfl w.heap.size _ ((rs.queue.take j).filter (lateQ rs.wait now)) rfl (HRd.out.below ((Below.refl _ _).alloc (Nat.le_refl _) _)) (some ⟨wr.heap.size, 0, none⟩) [y] 1 1 rfl rfl (EIn.new eltQ (wr.drewN nq) y _) (fun e => by cases e) (by omega) (by simp; omega) ?_; intro v' w' hown hgrow hat)
          | fail)
        go_roundg (N - (j + 1))
        case measure => omega
        case rel => exact ⟨j + 1, by omega, by omega, by go_num, by rw [HF2.out]; exact Lib.hid hown, Lib.hid ((HBd.out.alloc hsz _).grown hgrow (by simp; omega) (fun k e => (HRd.out.lt k e).1))⟩
      · have e1 : decide (y.since + rs.wait ≤ now) = false := decide_eq_false ht
        have HF2 := Lib.hid (show (rs.queue.take (j + 1)).filter (lateQ rs.wait now) = (rs.queue.take j).filter (lateQ rs.wait now) by rw [HFS.out]; unfold lateQ; rw [e1]; simp)
        clear e1 HFS
        go_wp2_with fail
        go_quiet (fail)
        go_wp2_with fail
        go_roundg (N - (j + 1))
        case measure => omega
        case rel => exact ⟨j + 1, by omega, by omega, by go_num, by rw [HF2.out]; exact Lib.hid (HR.out.below (below_drewN (Below.refl _ wr) _)), Lib.hid (HB.out.trans ((below_drewN (Below.refl _ wr) _).mono hsz))⟩
    · obtain rfl : j = N := by omega
      have e : rs.queue.take j = rs.queue := by rw [← HN.out]; exact List.take_length
      rw [e] at HR
      clear e
      obtain ⟨A7, n7, c7, rfl, hn7⟩ := ERow.sliceN HR.out
      have hle : n7 ≤ 1000 := by rw [hn7]; have := List.length_filter_le (lateQ rs.wait now) rs.queue; have := HN.out; omega
      have HS := Lib.hid (refNumbers_any A7 n7 c7 _ wr hn7.symm hle (row_in HR.out) (fun x hx => (HQ.out x (List.mem_filter.1 hx).1).1))
      clear hn7
      go_wp2_with fail
      refine HS.out.mono ?_
      rintro e w7 ⟨v, out, rfl, h1, h2, h3, h4⟩
      have H1 := Lib.hid (And.intro h1 (And.intro h2 (And.intro h3 h4)))
      clear h1 h2 h3 h4 HS
      go_wp2_with fail
      go_ret
      obtain ⟨h1, h2, h3, h4⟩ := H1.out
      refine ⟨v, out, rfl, h1.base hsz, h2, fun k => ?_, HB.out.trans (h4.mono hsz)⟩
      rw [h3 k]
      constructor
      · rintro ⟨x, hx, e⟩
        obtain ⟨a, b⟩ := List.mem_filter.1 hx
        exact ⟨x, a, b, e⟩
      · rintro ⟨x, hx, b, e⟩
        exact ⟨x, List.mem_filter.2 ⟨hx, b⟩, e⟩
set_option maxRecDepth 100000 in
set_option maxHeartbeats 2000000 in
theorem refSameKeys_any (A B : Option Addr) (n m c d : Nat) (xs ys : List KeyT) (w : World) (hx : xs.length = n) (hy : ys.length = m) (hn : n ≤ 1000000) (hm : m ≤ 1000000) (hinx : ∀ w', Below w.heap.size w w' → EIn eltK w' A xs) (hiny : ∀ w', Below w.heap.size w w' → EIn eltK w' B ys) :
    Calls Try.prog 23 #[.slice A n c, .slice B m d] w fun e w' => e = .returned (.bool (decide (xs = ys))) ∧ Below w.heap.size w w' := by
  have HX := Lib.hid hx
  have HY := Lib.hid hy
  have HIX := Lib.hid hinx
  have HIY := Lib.hid hiny
  clear hx hy hinx hiny
  by_cases hnm : n = m
  · subst hnm
    go_enter Try.func23, Try.ntmps23
    go_wp2_with fail
    go_loopg [5] n (fun gg s5 wq => ∃ j : Nat, j ≤ n ∧ n - j ≤ gg ∧ s5 = .int .i64 j ∧ Hid (xs.take j = ys.take j) ∧ Hid (Below w.heap.size w wq))
    case atStart => exact ⟨0, Nat.zero_le _, by omega, rfl, Lib.hid (by rw [List.take_zero, List.take_zero]), Lib.hid (Below.refl _ _)⟩
    case round =>
      obtain ⟨j, hj, hgj, rfl, HE, HB⟩ := hrel
      by_cases hjl : j < n
      · have hjz : (j : Int) < (n : Int) := by omega
        obtain ⟨x, hx⟩ : ∃ x, xs[j]? = some x := ⟨_, List.getElem?_eq_getElem (by have := HX.out; omega)⟩
        obtain ⟨y, hy⟩ : ∃ y, ys[j]? = some y := ⟨_, List.getElem?_eq_getElem (by have := HY.out; omega)⟩
        obtain ⟨b, off, rfl, hcx⟩ := (HIX.out wr HB.out).resolve_left (fun e => by rw [e] at hx; simp at hx)
        obtain ⟨b', off', rfl, hcy⟩ := (HIY.out wr HB.out).resolve_left (fun e => by rw [e] at hy; simp at hy)
        have x0 : wr.cell? ⟨b, off + j * 4, none⟩ = some (.int .u8 (x.a.val : Int)) := hcx j x hx 0 _ rfl
        have x1 : wr.cell? ⟨b, off + j * 4 + 1, none⟩ = some (.int .u8 (x.b.val : Int)) := hcx j x hx 1 _ rfl
        have x2 : wr.cell? ⟨b, off + j * 4 + 2, none⟩ = some (.int .u8 (x.c.val : Int)) := hcx j x hx 2 _ rfl
        have x3 : wr.cell? ⟨b, off + j * 4 + 3, none⟩ = some (.int .u8 (x.d.val : Int)) := hcx j x hx 3 _ rfl
        have y0 : wr.cell? ⟨b', off' + j * 4, none⟩ = some (.int .u8 (y.a.val : Int)) := hcy j y hy 0 _ rfl
        have y1 : wr.cell? ⟨b', off' + j * 4 + 1, none⟩ = some (.int .u8 (y.b.val : Int)) := hcy j y hy 1 _ rfl
        have y2 : wr.cell? ⟨b', off' + j * 4 + 2, none⟩ = some (.int .u8 (y.c.val : Int)) := hcy j y hy 2 _ rfl
        have y3 : wr.cell? ⟨b', off' + j * 4 + 3, none⟩ = some (.int .u8 (y.d.val : Int)) := hcy j y hy 3 _ rfl
        have heq := fun W => run_neqKey x y W
        simp only [KV_def] at heq
        have HTX := Lib.hid (take_snoc hx)
        have HTY := Lib.hid (take_snoc hy)
        have HXJ := Lib.hid (And.intro hx hy)
        clear hcx hcy hx hy
        by_cases hxy : x = y
        · have e1 : decide (x = y) = true := decide_eq_true hxy
          simp only [e1, Bool.not_true] at heq
          have HN := Lib.hid (show xs.take (j + 1) = ys.take (j + 1) by rw [HTX.out, HTY.out, HE.out, hxy])
          clear hxy e1
          go_wp2_with fail
          go_quiet (fail)
          go_wp2_with fail
          go_roundg (n - (j + 1))
          case measure => omega
          case rel => exact ⟨j + 1, by omega, by omega, by go_num, HN, Lib.hid (HB.out.trans ((below_drewN (Below.refl _ wr) _).mono HB.out.size))⟩
        · have e1 : decide (x = y) = false := decide_eq_false hxy
          simp only [e1, Bool.not_false] at heq
          have HN := Lib.hid (show decide (xs = ys) = false from decide_eq_false fun e => hxy (by have h := HXJ.out; rw [e, h.2] at h; exact (Option.some.inj h.1).symm))
          clear hxy e1
          go_wp2_with fail
          go_quiet (fail)
          go_wp2_with fail
          go_ret
          exact ⟨by rw [HN.out]; rfl, HB.out.trans ((below_drewN (Below.refl _ wr) _).mono HB.out.size)⟩
      · obtain rfl : j = n := by omega
        have HN := Lib.hid (show decide (xs = ys) = true from decide_eq_true (by have h := HE.out; rw [List.take_of_length_le (by have := HX.out; omega), List.take_of_length_le (by have := HY.out; omega)] at h; exact h))
        go_wp2_with fail
        go_ret
        exact ⟨by rw [HN.out]; rfl, HB.out⟩
  · have e1 : ((n : Int) != (m : Int)) = true := by
      have : ¬ (n : Int) = (m : Int) := by omega
      simpa using this
    have HN := Lib.hid (show decide (xs = ys) = false from decide_eq_false fun e => hnm (by rw [← HX.out, ← HY.out, e]))
    go_enter Try.func23, Try.ntmps23
    go_wp2_with fail
    go_ret
    exact ⟨by rw [HN.out]; rfl, Below.refl _ _⟩
set_option maxRecDepth 100000 in
set_option maxHeartbeats 8000000 in
theorem refTxs_any (F : Nat → Prop) (tb m : Nat) (rs : RS) (w : World) (h : RefAt w F tb m rs) (hm : m ≤ 1000) (hq : ∀ x ∈ rs.holds ++ rs.queue, 1 ≤ x.tx) :
    Calls Try.prog 30 #[.pointer (some ⟨tb, 0, none⟩)] w fun e w' => IntsQ w w' e (fun t => ∃ x ∈ rs.holds ++ rs.queue, x.tx = t) := by
  obtain ⟨hv, qv, h⟩ := h
  obtain ⟨A, n, c, rfl, hn⟩ := ERow.sliceN (E := eltQ) h.hrow
  obtain ⟨B, p, d, rfl, hp⟩ := ERow.sliceN (E := eltQ) h.qrow
  have HI := Lib.hid h
  have HN := Lib.hid hn.symm
  have HP := Lib.hid hp.symm
  have HLEN := Lib.hid (show n + p ≤ 1000 by have := h.len; omega)
  have HQ := Lib.hid hq
  have HNA := Lib.hid (ERow.cap (E := eltQ) h.hrow).1
  have HNB := Lib.hid (ERow.cap (E := eltQ) h.qrow).1
  have tl := h.tbl
  have c1 := h.c1
  have c2 := h.c2
  have hal : Below w.heap.size w (w.alloc (.cells #[] 74)).drew := below_drewN ((Below.refl _ w).alloc (Nat.le_refl _) _) 1
  have HAL := Lib.hid hal
  have HM := Lib.hid (show ERow eltQ w.heap.size (w.alloc (.cells #[] 74)).drew (.slice (some ⟨w.heap.size, 0, none⟩) 0 0) [] from (ERow.made eltQ w.heap.size w (Nat.le_refl _)).below (below_drewN (Below.refl _ _) 1))
  have HEA := Lib.hid (show ∀ W', Below w.heap.size w W' → EIn eltQ W' A rs.holds from fun W' hb => ERow.in_all (E := eltQ) (HI.out.below hb).hrow)
  have HEB := Lib.hid (show ∀ W', Below w.heap.size w W' → EIn eltQ W' B rs.queue from fun W' hb => ERow.in_all (E := eltQ) (HI.out.below hb).qrow)
  have HE1 := Lib.hid (HEA.out _ hal)
  have hlen := HLEN.out
  clear h hn hp hq hal
  go_enter Try.func30, Try.ntmps30
  go_wp2_with fail
  go_region_law (first
    | (go_simp; go_at_call 54; refine (hnum1).mono ?_; rintro e w7 ⟨v, out, rfl, h1, h2, h3, h4⟩)
    | (refine step_appendI eltQ w1 (by rfl) _ _ (by rfl) w.heap.size (.slice A1 n1 cc1) ([] ++ rs.holds) (by rfl) hown1 B rs.queue p d (by rfl) HP.out hE2 HNB.out (by rw [List.nil_append, HN.out]; omega) hs1 ?_; intro v2 w2 hown2 hgrow2 hat2; obtain ⟨A2, n2, cc2, rfl, hn2⟩ := ERow.sliceN hown2; have HN2 := Lib.hid hn2; clear hn2; have hb2 : Below w.heap.size w w2 := hb1.grown hgrow2 hs1 (fun k e => (hown1.lt k e).1); have hnum1 := refNumbers_any A2 n2 cc2 _ w2 HN2.out.symm (by rw [HN2.out, List.length_append, List.nil_append, HN.out, HP.out]; omega) (row_in hown2) (fun x hx => HQ.out x (by rw [List.nil_append] at hx; exact hx)))
    | ((fail_if_success (clear hown1)); refine step_appendI eltQ _ (by rfl) _ _ (by rfl) w.heap.size (.slice (some ⟨w.heap.size, 0, none⟩) 0 0) [] (by rfl) HM.out A rs.holds n c (by rfl) HN.out HE1.out HNA.out (by rw [List.length_nil]; omega) (by simp) ?_; intro v1 w1 hown1 hgrow1 hat1; obtain ⟨A1, n1, cc1, rfl, -⟩ := ERow.sliceN hown1; have hb1 : Below w.heap.size w w1 := HAL.out.grown ⟨hgrow1.os, hgrow1.tape, hgrow1.output, hgrow1.size, hgrow1.block⟩ HAL.out.size (fun k e => (HM.out.lt k e).1); have c21 : w1.cell? ⟨tb, 2, none⟩ = some (.slice B p d) := (hb1.cell (p := ⟨tb, 2, none⟩) tl).trans c2; have hE2 := HEB.out w1 hb1; have hs1 := hb1.size))
  all_goals
    have H1 := Lib.hid (And.intro h1 (And.intro h2 (And.intro h3 (And.intro h4 hb2))))
    clear h1 h2 h3 h4 hnum1
    go_wp2_with fail
    go_ret
    obtain ⟨h1, h2, h3, h4, h5⟩ := H1.out
    exact ⟨v, out, rfl, h1.base h5.size, h2, fun k => by rw [h3 k, List.nil_append], h5.trans (h4.mono h5.size)⟩
end Go.Proofs.Ytnfodidfhnofkaa
