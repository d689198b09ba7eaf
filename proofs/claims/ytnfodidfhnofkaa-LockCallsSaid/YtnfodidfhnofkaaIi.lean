/- The document's own table: Quit. -/
import Derived.Test.YtnfodidfhnofkaaIh
namespace Go.Proofs.Ytnfodidfhnofkaa
open Go.RowKit Go.Deep Go.Maps Go.Lib

theorem filter_snoc {α : Type} {l : List α} {j : Nat} {y : α} (hy : l[j]? = some y) (p : α → Bool) : (l.take (j + 1)).filter p = (l.take j).filter p ++ (if p y then [y] else []) := by
  rw [take_snoc hy, List.filter_append]
  cases hp : p y <;> simp [hp]
theorem filter_take_len {α : Type} (l : List α) (j : Nat) (p : α → Bool) : ((l.take j).filter p).length ≤ j := Nat.le_trans (List.length_filter_le _ _) (by rw [List.length_take]; omega)
set_option maxRecDepth 100000 in
set_option maxHeartbeats 8000000 in
theorem refQuit_any (F : Nat → Prop) (tb m : Nat) (rs : RS) (tx : Int) (w : World) (h : RefAt w F tb m rs) (hm : m ≤ 1000) :
    Calls Try.prog 18 #[.pointer (some ⟨tb, 0, none⟩), .int .i64 tx] w (RefDoes F tb m (quitQ rs tx).1 (.bool (quitQ rs tx).2) w) := by
  have HLT := Lib.hid h.lt
  have HT := Lib.hid h
  obtain ⟨o, ho⟩ : ∃ o, waitsQ rs.queue tx = o := ⟨_, rfl⟩
  have hw := refWaits_any F tb m rs tx o w h hm ho
  rw [KV_def] at hw
  have HO := Lib.hid ho
  clear h ho
  go_enter Try.func18, Try.ntmps18
  cases o with
  | none =>
    simp only [keyQ, Option.getD_none] at hw
    go_wp2_with fail
    refine hw.mono ?_
    rintro e w1 ⟨rfl, hb1⟩
    have HB1 := Lib.hid hb1
    clear hw hb1
    have HQ := Lib.hid (show quitQ rs tx = (rs, false) by unfold quitQ; rw [HO.out])
    have HB2 := Lib.hid (HB1.out.alloc HB1.out.size (.cells #[.int .u8 (((0 : Fin 256).val : Nat) : Int), .int .u8 (((0 : Fin 256).val : Nat) : Int), .int .u8 (((0 : Fin 256).val : Nat) : Int), .int .u8 (((0 : Fin 256).val : Nat) : Int)] 24))
    go_wp2_with fail
    go_ret
    rw [HQ.out]
    exact ((Tr.start HT.out).still HB2.out).does (Below.refl _ _) HLT.out
  | some k =>
    simp only [keyQ, Option.getD_some] at hw
    go_wp2_with fail
    refine hw.mono ?_
    rintro e w1 ⟨rfl, hb1⟩
    have HB1 := Lib.hid hb1
    clear hw hb1
    have HQ := Lib.hid (show quitQ rs tx = (onQS k { rs with queue := rs.queue.filter (notTx tx) }, true) by unfold quitQ; rw [HO.out])
    have hbV : Below w1.heap.size w1 (w1.alloc (.cells #[.int .u8 (k.a.val : Int), .int .u8 (k.b.val : Int), .int .u8 (k.c.val : Int), .int .u8 (k.d.val : Int)] 24)) := (Below.refl _ w1).alloc (Nat.le_refl _) _
    have hkV : KeyC (w1.alloc (.cells #[.int .u8 (k.a.val : Int), .int .u8 (k.b.val : Int), .int .u8 (k.c.val : Int), .int .u8 (k.d.val : Int)] 24)) w1.heap.size k := heap_alloc_new w1 _
    have HKW := Lib.hid hkV
    have HBW := Lib.hid (HB1.out.trans (hbV.mono HB1.out.size))
    have hsV : (w1.alloc (.cells #[.int .u8 (k.a.val : Int), .int .u8 (k.b.val : Int), .int .u8 (k.c.val : Int), .int .u8 (k.d.val : Int)] 24)).heap.size = w1.heap.size + 1 := by simp
    have HSV := Lib.hid hsV
    clear hsV
    have HBM := Lib.hid (show ∀ o : Obj, Below w1.heap.size w1 ((w1.alloc (.cells #[.int .u8 (k.a.val : Int), .int .u8 (k.b.val : Int), .int .u8 (k.c.val : Int), .int .u8 (k.d.val : Int)] 24)).alloc o) from fun o => hbV.alloc hbV.size o)
    go_wp2_with fail
    generalize hVV : (w1.alloc (.cells #[.int .u8 (k.a.val : Int), .int .u8 (k.b.val : Int), .int .u8 (k.c.val : Int), .int .u8 (k.d.val : Int)] 24)) = V at *
    clear hVV hbV hkV
    have HMD := Lib.hid (show ERow eltQ V.heap.size (V.alloc (.cells #[] 74)) (.slice (some ⟨w1.heap.size + 1, 0, none⟩) 0 0) [] by rw [← HSV.out]; exact ERow.made eltQ V.heap.size V (Nat.le_refl _))
    have hbX : Below V.heap.size V (V.alloc (.cells #[] 74)) := (Below.refl _ V).alloc (Nat.le_refl _) _
    have HTV := Lib.hid (HT.out.below HBW.out)
    obtain ⟨hv, qv, hi⟩ := HTV.out
    obtain ⟨A, c, rfl⟩ := hi.qrow.slice
    obtain ⟨N, hN⟩ : ∃ N, rs.queue.length = N := ⟨_, rfl⟩
    have hNm : N ≤ 1000 := by have := hi.len; omega
    rw [hN] at hi
    have HI := Lib.hid hi
    have HN := Lib.hid hN
    have HBX := Lib.hid hbX
    clear hi hN hbX
    go_loopg [7, 8] N (fun gg s7 s8 wq => ∃ j : Nat, j ≤ N ∧ N - j ≤ gg ∧ s8 = .int .i64 j ∧ Hid (ERow eltQ V.heap.size wq s7 ((rs.queue.take j).filter (notTx tx))) ∧ Hid (Below V.heap.size V wq))
    case atStart => exact ⟨0, Nat.zero_le _, by omega, rfl, Lib.hid (by rw [List.take_zero]; exact HMD.out), HBX⟩
    case round =>
      obtain ⟨j, hj, hgj, rfl, HR, HB⟩ := hrel
      have c2 := (HI.out.below HB.out).c2
      have tl := (HI.out.below HB.out).tbl
      have hsz := HB.out.size
      by_cases hjl : j < N
      · have hjz : (j : Int) < (N : Int) := by omega
        obtain ⟨y, hy⟩ : ∃ y, rs.queue[j]? = some y := ⟨_, List.getElem?_eq_getElem (by have := HN.out; omega)⟩
        obtain ⟨g, rfl, -, hgl, hNc⟩ := (HI.out.below HB.out).qrow.at (by have := HN.out; omega)
        obtain ⟨y0, y1, y2, y3, y4, y5, y6, y7⟩ := (HI.out.below HB.out).qrow.cells hy
        have HFS := Lib.hid (filter_snoc hy (notTx tx))
        have hfl := filter_take_len rs.queue j (notTx tx)
        clear hy
        by_cases ht : y.tx = tx
        · have e1 : (y.tx != tx) = false := by simp [ht]
          have HF2 := Lib.hid (show (rs.queue.take (j + 1)).filter (notTx tx) = (rs.queue.take j).filter (notTx tx) by rw [HFS.out]; unfold notTx; rw [e1]; simp)
          clear ht HFS
          go_wp2_with fail
          go_roundg (N - (j + 1))
          case measure => omega
          case rel => exact ⟨j + 1, by omega, by omega, by go_num, by rw [HF2.out]; exact HR, HB⟩
        · have e1 : (y.tx != tx) = true := by simpa using ht
          have HF2 := Lib.hid (show (rs.queue.take (j + 1)).filter (notTx tx) = (rs.queue.take j).filter (notTx tx) ++ [y] by rw [HFS.out]; unfold notTx; rw [e1]; rfl)
          clear ht HFS
          go_wp2_with (first
            | (at_builtin; refine wpList_appendE eltQ _ rfl _ _ rfl V.heap.size _ ((rs.queue.take j).filter (notTx tx)) rfl (HR.out.below ((Below.refl _ wr).alloc (Nat.le_refl _) _)) (some ⟨wr.heap.size, 0, none⟩) [y] 1 1 rfl rfl (EIn.new eltQ wr y _) (fun e => by cases e) (by omega) (by simp; omega) ?_; intro v' w' hown hgrow hat)
            | fail)
          go_roundg (N - (j + 1))
          case measure => omega
          case rel => exact ⟨j + 1, by omega, by omega, by go_num, by rw [HF2.out]; exact Lib.hid hown, Lib.hid ((HB.out.alloc hsz _).grown hgrow (by simp; omega) (fun k e => (HR.out.lt k e).1))⟩
      · obtain rfl : j = N := by omega
        have e : rs.queue.take j = rs.queue := by rw [← HN.out]; exact List.take_length
        have HR2 := Lib.hid (show ERow eltQ V.heap.size wr u7 (rs.queue.filter (notTx tx)) by have := HR.out; rw [e] at this; exact this)
        clear HR e
        obtain ⟨A7, n7, c7, rfl, -⟩ := ERow.sliceN HR2.out
        have f0 : wr.frozen? ⟨tb, 2, none⟩ = false := by
          have := (HI.out.below HB.out).blk
          simp [World.frozen?, this]
        have hset := refSetQ (m' := m) HTV.out HB.out HR2.out (by have := HI.out.len; have := List.length_filter_le (notTx tx) rs.queue; omega)
        have T1 := Lib.hid (show Tr V (wr.setCell ⟨tb, 2, none⟩ (.slice A7 n7 c7)) F tb m { rs with queue := rs.queue.filter (notTx tx) } from ⟨hset.1, hset.2⟩)
        clear hset
        go_upto_region 11 with fail
        generalize (wr.setCell ⟨tb, 2, none⟩ (.slice A7 n7 c7)) = W at *
        have HK1 := T1.out.key HKW.out (fun e => by have := HLT.out _ e; have := HB1.out.size; omega)
        obtain ⟨k0, k1, k2, k3⟩ := HK1.cells
        have hkl := HK1.lt
        have hon := refOn_any (grow F V W) tb m { rs with queue := rs.queue.filter (notTx tx) } k W T1.out.at_ hm
        rw [KV_def] at hon
        clear HK1
        go_wp2_with fail
        refine hon.mono ?_
        rintro e w7 ⟨rfl, r4, r5⟩
        have T2 := Lib.hid (T1.out.step r4 r5)
        clear hon r4 r5 k0 k1 k2 k3 hkl
        go_wp2_with fail
        go_ret
        rw [HQ.out]
        exact T2.out.does HBW.out HLT.out
end Go.Proofs.Ytnfodidfhnofkaa
