/- The document's own table: grant. -/
import Derived.Test.YtnfodidfhnofkaaIf
namespace Go.Proofs.Ytnfodidfhnofkaa
open Go.RowKit Go.Deep Go.Maps Go.Lib

theorem flatMap_set {α : Type} {enc : α → List Value} {n : Nat} (hlen : ∀ x, (enc x).length = n) : ∀ (l : List α) (j : Nat) (y y' : α) (k : Nat) (u : Value), l[j]? = some y → k < n → enc y' = (enc y).set k u → (l.set j y').flatMap enc = (l.flatMap enc).set (j * n + k) u
  | [], j, y, y', k, u, h, _, _ => by simp at h
  | q :: t, 0, y, y', k, u, h, hk, he => by
    obtain rfl : q = y := by simpa using h
    rw [List.set_cons_zero, List.flatMap_cons, List.flatMap_cons, he, Nat.zero_mul, Nat.zero_add, List.set_append_left _ _ (by rw [hlen]; exact hk)]
  | q :: t, j + 1, y, y', k, u, h, hk, he => by
    have ih := flatMap_set hlen t j y y' k u (by simpa using h) hk he
    rw [List.set_cons_succ, List.flatMap_cons, List.flatMap_cons, ih, List.set_append_right _ _ (by rw [hlen, Nat.add_mul]; omega), hlen]
    congr 2
    rw [Nat.add_mul]
    omega
theorem ERow.set {α : Type} {E : Elt α} {base n c g : Nat} {w : World} {l : List α} (h : ERow E base w (.slice (some ⟨g, 0, none⟩) n c) l) {j k : Nat} {y y' : α} {u : Value} (hy : l[j]? = some y) (hk : k < E.n) (he : E.enc y' = (E.enc y).set k u) :
    ERow E base (w.setCell ⟨g, j * E.n + k, none⟩ u) (.slice (some ⟨g, 0, none⟩) n c) (l.set j y') := by
  have hf := flatMap_set E.len l j y y' k u hy hk he
  rcases h.2 with ⟨e, _⟩ | ⟨g', cap', cur, e, hb0, hh, hnc, hcm, hsz, htk⟩
  · cases e
  · simp only [Value.slice.injEq, Option.some.injEq, Addr.mk.injEq, and_true] at e
    obtain ⟨rfl, hnn, rfl⟩ := e
    refine ⟨by rw [flatMap_len E.len], .inr ⟨g, c, _, by rw [List.length_set, hnn], hb0, setCell_heap hh, by rw [List.length_set]; exact hnc, hcm, by simp [hsz], ?_⟩⟩
    rw [hf, Array.toList_setIfInBounds, List.length_set, List.take_set, htk]
theorem grantQ_drop {l : List RHold} {j : Nat} {x : RHold} (hx : l[j]? = some x) (w : RHold) : grantQ (l.drop j) w = if isQ w.tx w.key x then { x with ex := true } :: l.drop (j + 1) else x :: grantQ (l.drop (j + 1)) w := by
  obtain ⟨hl, rfl⟩ := List.getElem?_eq_some_iff.1 hx
  rw [List.drop_eq_getElem_cons hl]
  rfl
theorem set_is {α : Type} {l : List α} {j : Nat} {x y : α} (hx : l[j]? = some x) : l.set j y = l.take j ++ y :: l.drop (j + 1) := by
  have hl := (List.getElem?_eq_some_iff.1 hx).1
  rw [List.set_eq_take_append_cons_drop, if_pos hl]
theorem take_snoc {α : Type} {l : List α} {j : Nat} {x : α} (hx : l[j]? = some x) : l.take (j + 1) = l.take j ++ [x] := by
  rw [List.take_add_one, hx]; rfl
theorem hq_true (x : RHold) : hq { x with ex := true } = (hq x).set 5 (.bool true) := rfl
theorem QRow.block {B : Nat} {w : World} {v : Value} {l : List RHold} (h : QRow B w v l) {b : Nat} (hb : v.ownBlock = some b) : ∃ cur, w.heap[b]? = some (.cells cur 74 (0, 0)) := by
  rcases h.2 with ⟨rfl, _⟩ | ⟨g, cap, cur, rfl, h2, h3, h4⟩
  · cases hb
  · obtain rfl := Option.some.inj hb
    exact ⟨cur, h3⟩
/-- The table with its holds turned. -/
theorem RefIn.holds {w w' : World} {F : Nat → Prop} {tb m m' : Nat} {rs : RS} {hv hv' qv : Value} {l : List RHold} (h : RefIn w F tb m rs hv qv) (hblk : w'.heap[tb]? = some (.cells #[.int .i64 rs.wait, hv', qv] 61 (0, 0))) (hrow : QRow 0 w' hv' l) (hm : Moves F w w') (hq : ∀ b, qv.ownBlock = some b → w'.heap[b]? = w.heap[b]?)
    (hnew : ∀ b, hv'.ownBlock = some b → hv.ownBlock = some b ∨ w.heap.size ≤ b) (hlen : l.length + rs.queue.length ≤ m') : RefIn w' (grow F w w') tb m' { rs with holds := l } hv' qv := by
  have hlt := fun b hb => (hrow.lt b hb).2
  refine ⟨hblk, hrow, h.qrow.kept hq, fun b hb e => ?_, fun b hb => ?_, fun b hb => ⟨.inl (h.qF b hb).1, (h.qF b hb).2⟩, .inl h.f1, fun b hb => hb.elim (fun e => Nat.lt_of_lt_of_le (h.lt b e) hm.size) (·.2), hlen⟩
  · rcases hnew b hb with e1 | e1
    · exact h.sep b e1 e
    · have := h.lt b (h.qF b e).1; omega
  · rcases hnew b hb with e1 | e1
    · exact ⟨.inl (h.hF b e1).1, (h.hF b e1).2⟩
    · exact ⟨.inr ⟨e1, hlt b hb⟩, fun e => by have := h.tbl; omega⟩
theorem refGrant_set {x : RHold} {w W1 : World} {F : Nat → Prop} {tb m : Nat} {rs : RS} {g N c j : Nat} {qv : Value} {y : RHold} (h : RefIn w F tb m rs (.slice (some ⟨g, 0, none⟩) N c) qv) (hb : Below w.heap.size w W1) (hy : rs.holds[j]? = some y) (hg : grantQ rs.holds x = rs.holds.set j { y with ex := true }) :
    RefDoes F tb (m + 1) { rs with holds := grantQ rs.holds x } (.tuple #[]) w (.returned (.tuple #[])) (W1.setCell ⟨g, j * 8 + 5, none⟩ (.bool true)) := by
  have h1 := h.below hb
  obtain ⟨gF, gt⟩ := h.hF g rfl
  have hM : Moves F w (W1.setCell ⟨g, j * 8 + 5, none⟩ (.bool true)) := (moves_of_below hb).trans (moves_setCell F W1 ⟨g, j * 8 + 5, none⟩ (.bool true) gF) fun _ e => .inl e
  have hk : ∀ b, b ≠ g → (W1.setCell ⟨g, j * 8 + 5, none⟩ (.bool true)).heap[b]? = W1.heap[b]? := fun b hb => Below.heap_setCell _ _ _ b hb
  refine ⟨rfl, ⟨_, _, h.holds ((hk tb (Ne.symm gt)).trans h1.blk) ?_ hM (fun b hb2 => (hk b (fun e => h.sep g rfl (e ▸ hb2))).trans (hb.block b (h.lt b (h.qF b hb2).1))) (fun b hb => .inl hb) ?_⟩, hM⟩
  · rw [hg]
    exact ERow.set (E := eltQ) h1.hrow hy (show 5 < 8 by decide) (hq_true y)
  · rw [hg, List.length_set]
    have := h.len
    omega
theorem refGrant_app {x : RHold} {w wr w1 : World} {F : Nat → Prop} {tb m N c n1 c1 : Nat} {rs : RS} {qv : Value} {A A1 : Option Addr} {o : Obj} (h : RefIn w F tb m rs (.slice A N c) qv) (hb : Below w.heap.size w wr) (hg : grantQ rs.holds x = rs.holds ++ [x]) (hgrow : (wr.alloc o).grownBy w1 (Value.slice A N c).ownBlock) (hown : ERow eltQ 0 w1 (.slice A1 n1 c1) (rs.holds ++ [x])) (hat : (Value.slice A1 n1 c1).ownBlock = (Value.slice A N c).ownBlock ∨ (Value.slice A1 n1 c1).ownBlock = some (wr.alloc o).heap.size) :
    RefDoes F tb (m + 1) { rs with holds := grantQ rs.holds x } (.tuple #[]) w (.returned (.tuple #[])) (w1.setCell ⟨tb, 1, none⟩ (.slice A1 n1 c1)) := by
  have h1 := h.below hb
  have hsz : wr.heap.size ≤ (wr.alloc o).heap.size := by simp
  have hs := hb.size
  have hne : ∀ b, (Value.slice A N c).ownBlock = some b → b ≠ tb := fun b hb => (h.hF b hb).2
  have hk : ∀ b, b < wr.heap.size → (Value.slice A N c).ownBlock ≠ some b → w1.heap[b]? = wr.heap[b]? := fun b hb hn => (hgrow.block b (by omega) (fun e => hn e.symm)).trans (Below.heap_alloc wr o b hb)
  have hblk : w1.heap[tb]? = some (.cells #[.int .i64 rs.wait, .slice A N c, qv] 61 (0, 0)) := (hk tb h1.tbl (fun e => hne tb e rfl)).trans h1.blk
  have hM : Moves F w (w1.setCell ⟨tb, 1, none⟩ (.slice A1 n1 c1)) := (((moves_of_below hb).trans (moves_of_below (F := F) ((Below.refl _ wr).alloc (Nat.le_refl _) o)) fun _ e => .inl e).trans (moves_of_grown (F := F) hgrow fun b e => (h.hF b e).1) fun _ e => .inl e).trans (moves_setCell F w1 ⟨tb, 1, none⟩ _ h.f1) fun _ e => .inl e
  have hnew : ∀ b, (Value.slice A1 n1 c1).ownBlock = some b → (Value.slice A N c).ownBlock = some b ∨ w.heap.size ≤ b := fun b e => by
    rcases hat with h2 | h2
    · rw [h2] at e; exact .inl e
    · rw [h2] at e
      have := Option.some.inj e
      exact .inr (by omega)
  have hsk : ∀ b, b ≠ tb → (w1.setCell ⟨tb, 1, none⟩ (.slice A1 n1 c1)).heap[b]? = w1.heap[b]? := fun b hb => Below.heap_setCell _ _ _ b hb
  refine ⟨rfl, ⟨_, _, h.holds (hv' := .slice A1 n1 c1) ?_ ?_ hM (fun b hb2 => ?_) hnew ?_⟩, hM⟩
  · have := setCell_heap (v := .slice A1 n1 c1) (i := 1) hblk
    simpa using this
  · rw [hg]
    refine QRow.kept hown fun b hb2 => hsk b fun e => ?_
    rcases hnew b hb2 with e1 | e1
    · exact hne b e1 e
    · have := h.tbl; omega
  · have hq := h.qF b hb2
    refine (hsk b hq.2).trans ((hk b (by have := h.lt b hq.1; omega) (fun e => h.sep b e hb2)).trans (hb.block b (h.lt b hq.1)))
  · rw [hg, List.length_append]
    have := h.len
    simp
    omega
set_option maxRecDepth 100000 in
set_option maxHeartbeats 4000000 in
theorem refGrant_any (F : Nat → Prop) (tb m : Nat) (rs : RS) (x : RHold) (w : World) (h : RefAt w F tb m rs) (hm : m ≤ 1000) :
    Calls Try.prog 41 #[.pointer (some ⟨tb, 0, none⟩), HQ x] w (RefDoes F tb (m + 1) { rs with holds := grantQ rs.holds x } (.tuple #[]) w) := by
  obtain ⟨hv, qv, h⟩ := h
  have HT := Lib.hid h
  obtain ⟨A, c, rfl⟩ := h.hrow.slice
  obtain ⟨N, hN⟩ : ∃ N, rs.holds.length = N := ⟨_, rfl⟩
  have hNm : N ≤ 1000 := by have := h.len; omega
  rw [hN] at h HT
  have HN := Lib.hid hN
  have tl := h.tbl
  have hbV : Below w.heap.size w (w.alloc (holdO x)) := (Below.refl _ w).alloc (Nat.le_refl _) _
  have hkV := HoldC.new w x
  clear hN
  rw [HQ_def]
  go_enter Try.func41, Try.ntmps41
  go_wp2_with fail
  change Code.wp _ _ _ _ (w.alloc (holdO x))
  generalize (w.alloc (holdO x)) = V at *
  have HTV := Lib.hid (HT.out.below hbV)
  have HBV := Lib.hid hbV
  have HSV := Lib.hid hbV.size
  have HKV := Lib.hid hkV
  clear h hbV hkV tl
  go_loopg [4] N (fun gg s4 wq => ∃ j : Nat, j ≤ N ∧ N - j ≤ gg ∧ s4 = .int .i64 j ∧ Hid (grantQ rs.holds x = rs.holds.take j ++ grantQ (rs.holds.drop j) x) ∧ Hid (Below V.heap.size V wq))
  case atStart => exact ⟨0, Nat.zero_le _, by omega, rfl, Lib.hid (by rw [List.take_zero, List.drop_zero]; rfl), Lib.hid (Below.refl _ _)⟩
  case round =>
    obtain ⟨j, hj, hgj, rfl, HRj, HB⟩ := hrel
    have c1 := (HTV.out.below HB.out).c1
    have tl := (HTV.out.below HB.out).tbl
    have hKW := HKV.out.still HB.out
    obtain ⟨q0, q1, q2, q3, q4, q5, q6, q7⟩ := hKW.cells
    have hkl := hKW.lt
    by_cases hjl : j < N
    · have hjz : (j : Int) < (N : Int) := by omega
      obtain ⟨y, hy⟩ : ∃ y, rs.holds[j]? = some y := ⟨_, List.getElem?_eq_getElem (by have := HN.out; omega)⟩
      have HY := Lib.hid hy
      obtain ⟨g, rfl, -, hgl, hNc⟩ := (HTV.out.below HB.out).hrow.at (by have := HN.out; omega)
      obtain ⟨y0, y1, y2, y3, y4, y5, y6, y7⟩ := (HTV.out.below HB.out).hrow.cells hy
      have heq := fun W => run_eqlKey y.key x.key W
      simp only [KV_def] at heq
      have HD := Lib.hid (HRj.out.trans (congrArg (rs.holds.take j ++ ·) (grantQ_drop hy x)))
      clear hy hKW
      unfold isQ at HD
      have hnext : isQ x.tx x.key y = false → grantQ rs.holds x = rs.holds.take (j + 1) ++ grantQ (rs.holds.drop (j + 1)) x := fun hf => by
        rw [HRj.out, grantQ_drop HY.out, hf, take_snoc HY.out]
        simp
      have HNX := Lib.hid hnext
      clear hnext
      by_cases ht : y.tx = x.tx
      · have e2 : (y.tx == x.tx) = true := by simp [ht]
        by_cases hk : y.key = x.key
        · have e1 : decide (y.key = x.key) = true := decide_eq_true hk
          simp only [e1] at heq
          have HGR := Lib.hid (show grantQ rs.holds x = rs.holds.set j { y with ex := true } by rw [set_is HY.out, HD.out, e2, e1]; rfl)
          clear hk ht HD HNX
          have hfz : wr.frozen? ⟨g, j * 8 + 5, none⟩ = false := by
            obtain ⟨cur, hcur⟩ := (HTV.out.below HB.out).hrow.block (b := g) rfl
            simp [World.frozen?, hcur]
          have hBW := Lib.hid (HBV.out.trans (HB.out.mono HSV.out))
          go_wp2_with fail
          go_quiet (fail)
          go_wp2_with fail
          refine bodyPost_ret (results_none rfl _ _ _) rfl ?_
          exact refGrant_set HT.out (hBW.out.trans ((below_drewN (Below.refl _ wr) _).mono hBW.out.size)) HY.out HGR.out
        · have e1 : decide (y.key = x.key) = false := decide_eq_false hk
          simp only [e1] at heq
          have HF := Lib.hid (HNX.out (by unfold isQ; rw [e1, Bool.and_false]))
          clear hk ht HD HNX
          go_wp2_with fail
          go_quiet (fail)
          go_wp2_with fail
          go_roundg (N - (j + 1))
          case measure => omega
          case rel => exact ⟨j + 1, by omega, by omega, by go_num, HF, Lib.hid (HB.out.trans ((below_drewN (Below.refl _ wr) _).mono HB.out.size))⟩
      · have e2 : (y.tx == x.tx) = false := by simpa using ht
        have HF := Lib.hid (HNX.out (by unfold isQ; rw [e2, Bool.false_and]))
        clear ht HD HNX heq
        go_wp2_with fail
        go_quiet (fail)
        go_wp2_with fail
        go_roundg (N - (j + 1))
        case measure => omega
        case rel => exact ⟨j + 1, by omega, by omega, by go_num, HF, Lib.hid (HB.out.trans ((below_drewN (Below.refl _ wr) _).mono HB.out.size))⟩
    · obtain rfl : j = N := by omega
      have hB := HBV.out.trans (HB.out.mono HSV.out)
      have HBW := Lib.hid hB
      have HTW := Lib.hid (HTV.out.below HB.out)
      have HG := Lib.hid (show grantQ rs.holds x = rs.holds ++ [x] by
        rw [HRj.out, List.drop_eq_nil_of_le (by have := HN.out; omega), List.take_of_length_le (by have := HN.out; omega)]; rfl)
      have f0 : wr.frozen? ⟨tb, 1, none⟩ = false := by
        have := (HTV.out.below HB.out).blk
        simp [World.frozen?, this]
      have hrow := (HTV.out.below HB.out).hrow
      have r0 : ∀ o : Obj, (wr.alloc o).cell? ⟨tb, 1, none⟩ = some (.slice A j c) := fun o => (World.cell?_alloc_lt wr o ⟨tb, 1, none⟩ tl).trans c1
      have hHL := Lib.hid HN.out
      have hne : some tb ≠ (Value.slice A j c).ownBlock := fun e => ((HTV.out.below HB.out).hF tb e.symm).2 rfl
      clear hB hKW
      go_wp2_with fail
      go_region_law ((refine step_appendI eltQ _ (by rfl) _ _ (by rfl) 0 (.slice A j c) rs.holds (by rfl) (by first | exact (QRow.below hrow ((Below.refl _ wr).alloc (Nat.le_refl _) _)) | exact (QRow.below hrow (below_drewN ((Below.refl _ wr).alloc (Nat.le_refl _) _) 1))) (some ⟨wr.heap.size, 0, none⟩) [x] 1 1 (by rfl) rfl (by first | exact EIn.new eltQ wr x _ | exact EIn.new eltQ wr.drew x _) (fun e => by cases e) (by rw [HN.out]; omega) (Nat.zero_le _) ?_); intro v' w1 hown hgrow hat; obtain ⟨A1, n1, cc1, rfl, -⟩ := ERow.sliceN hown; have k0 : w1.cell? ⟨tb, 1, none⟩ = some (.slice A j c) := (World.cell?_of_block (a := ⟨tb, 1, none⟩) (hgrow.block tb (by simp; omega) hne)).trans (r0 _); have kf : w1.frozen? ⟨tb, 1, none⟩ = false := (World.frozen?_of_block (a := ⟨tb, 1, none⟩) (hgrow.block tb (by simp; omega) hne)).trans ((World.frozen?_alloc_past _ tb 1 tl).trans f0))
      all_goals
        go_end0
        exact refGrant_app HT.out HBW.out HG.out ⟨hgrow.os, hgrow.tape, hgrow.output, hgrow.size, hgrow.block⟩ hown hat
end Go.Proofs.Ytnfodidfhnofkaa
