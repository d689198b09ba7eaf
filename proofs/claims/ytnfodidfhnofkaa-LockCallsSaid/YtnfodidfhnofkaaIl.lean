/- The document's own table: Keys, Held. -/
import Derived.Test.YtnfodidfhnofkaaIk
namespace Go.Proofs.Ytnfodidfhnofkaa
open Go.RowKit Go.Deep Go.Maps Go.Lib

def hasTx (tx : Int) (h : RHold) : Bool := h.tx == tx
def KeysQ (w w' : World) (e : Ending) (P : KeyT → Prop) : Prop := ∃ v out, e = .returned v ∧ ERow eltK w.heap.size w' v out ∧ SortedK out ∧ (∀ k, k ∈ out ↔ P k) ∧ Below w.heap.size w w'
theorem sorted_row {W : World} {B n c : Nat} {A : Option Addr} {l : List KeyT} (h : ERow eltK B W (.slice A n c) l) : ∀ w', Below W.heap.size W w' → EIn eltK w' A l := fun _ hb => ERow.in_all (h.below hb)
set_option maxRecDepth 100000 in
set_option maxHeartbeats 4000000 in
theorem refKeys_any (F : Nat → Prop) (tb m : Nat) (rs : RS) (tx : Int) (w : World) (h : RefAt w F tb m rs) (hm : m ≤ 1000) :
    Calls Try.prog 25 #[.pointer (some ⟨tb, 0, none⟩), .int .i64 tx] w fun e w' => KeysQ w w' e (fun k => ∃ x ∈ rs.holds, x.tx = tx ∧ x.key = k) := by
  obtain ⟨hv, qv, h⟩ := h
  obtain ⟨A, c, rfl⟩ := h.hrow.slice
  obtain ⟨N, hN⟩ : ∃ N, rs.holds.length = N := ⟨_, rfl⟩
  have hNm : N ≤ 1000 := by have := h.len; omega
  rw [hN] at h
  have HI := Lib.hid h
  have HN := Lib.hid hN
  have HMD := Lib.hid (show ERow eltK w.heap.size (w.alloc (.cells #[] 24)) (.slice (some ⟨w.heap.size, 0, none⟩) 0 0) [] from ERow.made eltK w.heap.size w (Nat.le_refl _))
  have HB0 := Lib.hid (show Below w.heap.size w (w.alloc (.cells #[] 24)) from (Below.refl _ w).alloc (Nat.le_refl _) _)
  clear h hN
  go_enter Try.func25, Try.ntmps25
  go_wp2_with fail
  go_loopg [5, 6] N (fun gg s5 s6 wq => ∃ j : Nat, j ≤ N ∧ N - j ≤ gg ∧ s6 = .int .i64 j ∧ Hid (ERow eltK w.heap.size wq s5 (((rs.holds.take j).filter (hasTx tx)).map RHold.key)) ∧ Hid (Below w.heap.size w wq))
  case atStart => exact ⟨0, Nat.zero_le _, by omega, rfl, Lib.hid (by rw [List.take_zero]; exact HMD.out), HB0⟩
  case round =>
    obtain ⟨j, hj, hgj, rfl, HR, HB⟩ := hrel
    have c1 := (HI.out.below HB.out).c1
    have tl := (HI.out.below HB.out).tbl
    have hsz := HB.out.size
    by_cases hjl : j < N
    · have hjz : (j : Int) < (N : Int) := by omega
      obtain ⟨y, hy⟩ : ∃ y, rs.holds[j]? = some y := ⟨_, List.getElem?_eq_getElem (by have := HN.out; omega)⟩
      obtain ⟨g, rfl, -, hgl, hNc⟩ := (HI.out.below HB.out).hrow.at (by have := HN.out; omega)
      obtain ⟨y0, y1, y2, y3, y4, y5, y6, y7⟩ := (HI.out.below HB.out).hrow.cells hy
      have HFS := Lib.hid (filter_snoc hy (hasTx tx))
      have hfl := filter_take_len rs.holds j (hasTx tx)
      clear hy
      by_cases ht : y.tx = tx
      · have e1 : (y.tx == tx) = true := by simp [ht]
        have HF2 := Lib.hid (show ((rs.holds.take (j + 1)).filter (hasTx tx)).map RHold.key = ((rs.holds.take j).filter (hasTx tx)).map RHold.key ++ [y.key] by rw [HFS.out]; unfold hasTx; rw [e1]; simp)
        clear ht HFS
        go_wp2_with (first
          | (at_builtin; refine wpList_appendE eltK _ rfl _ _ rfl w.heap.size _ (((rs.holds.take j).filter (hasTx tx)).map RHold.key) rfl (HR.out.below ((Below.refl _ wr).alloc (Nat.le_refl _) _)) (some ⟨wr.heap.size, 0, none⟩) [y.key] 1 1 rfl rfl (EIn.new eltK wr y.key _) (fun e => by cases e) (by rw [List.length_map]; omega) (by simp; omega) ?_; intro v' w' hown hgrow hat)
          | fail)
        go_roundg (N - (j + 1))
        case measure => omega
        case rel => exact ⟨j + 1, by omega, by omega, by go_num, by rw [HF2.out]; exact Lib.hid hown, Lib.hid ((HB.out.alloc hsz _).grown hgrow (by simp; omega) (fun k e => (HR.out.lt k e).1))⟩
      · have e1 : (y.tx == tx) = false := by simpa using ht
        have HF2 := Lib.hid (show ((rs.holds.take (j + 1)).filter (hasTx tx)).map RHold.key = ((rs.holds.take j).filter (hasTx tx)).map RHold.key by rw [HFS.out]; unfold hasTx; rw [e1]; simp)
        clear ht HFS
        go_wp2_with fail
        go_roundg (N - (j + 1))
        case measure => omega
        case rel => exact ⟨j + 1, by omega, by omega, by go_num, by rw [HF2.out]; exact HR, HB⟩
    · obtain rfl : j = N := by omega
      have e : rs.holds.take j = rs.holds := by rw [← HN.out]; exact List.take_length
      rw [e] at HR
      clear e
      obtain ⟨A7, n7, c7, rfl, hn7⟩ := ERow.sliceN HR.out
      have hle : n7 ≤ 1000 := by rw [hn7, List.length_map]; have := List.length_filter_le (hasTx tx) rs.holds; have := HN.out; omega
      have hs := refSorted_any A7 n7 c7 _ wr hn7.symm hle (sorted_row HR.out)
      have HS := Lib.hid hs
      clear hs hn7
      go_wp2_with fail
      refine HS.out.mono ?_
      rintro e w7 ⟨v, out, rfl, h1, h2, h3, h4⟩
      have H1 := Lib.hid (And.intro h1 (And.intro h2 (And.intro h3 h4)))
      clear h1 h2 h3 h4 HS
      go_wp2_with fail
      go_ret
      obtain ⟨h1, h2, h3, h4⟩ := H1.out
      refine ⟨v, out, rfl, h1.base hsz, h2, fun k => ?_, HB.out.trans (h4.mono hsz)⟩
      rw [h3 k, List.mem_map]
      constructor
      · rintro ⟨x, hx, rfl⟩
        obtain ⟨a, b⟩ := List.mem_filter.1 hx
        exact ⟨x, a, by simpa [hasTx] using b, rfl⟩
      · rintro ⟨x, hx, e, rfl⟩
        exact ⟨x, List.mem_filter.2 ⟨hx, by simpa [hasTx] using e⟩, rfl⟩
set_option maxRecDepth 100000 in
set_option maxHeartbeats 4000000 in
theorem refHeld_any (F : Nat → Prop) (tb m : Nat) (rs : RS) (w : World) (h : RefAt w F tb m rs) (hm : m ≤ 1000) :
    Calls Try.prog 27 #[.pointer (some ⟨tb, 0, none⟩)] w fun e w' => KeysQ w w' e (fun k => ∃ x ∈ rs.holds, x.key = k) := by
  obtain ⟨hv, qv, h⟩ := h
  obtain ⟨A, c, rfl⟩ := h.hrow.slice
  obtain ⟨N, hN⟩ : ∃ N, rs.holds.length = N := ⟨_, rfl⟩
  have hNm : N ≤ 1000 := by have := h.len; omega
  rw [hN] at h
  have HI := Lib.hid h
  have HN := Lib.hid hN
  have HMD := Lib.hid (show ERow eltK w.heap.size (w.alloc (.cells #[] 24)) (.slice (some ⟨w.heap.size, 0, none⟩) 0 0) [] from ERow.made eltK w.heap.size w (Nat.le_refl _))
  have HB0 := Lib.hid (show Below w.heap.size w (w.alloc (.cells #[] 24)) from (Below.refl _ w).alloc (Nat.le_refl _) _)
  clear h hN
  go_enter Try.func27, Try.ntmps27
  go_wp2_with fail
  go_loopg [3, 4] N (fun gg s5 s6 wq => ∃ j : Nat, j ≤ N ∧ N - j ≤ gg ∧ s6 = .int .i64 j ∧ Hid (ERow eltK w.heap.size wq s5 ((rs.holds.take j).map RHold.key)) ∧ Hid (Below w.heap.size w wq))
  case atStart => exact ⟨0, Nat.zero_le _, by omega, rfl, Lib.hid (by rw [List.take_zero]; exact HMD.out), HB0⟩
  case round =>
    obtain ⟨j, hj, hgj, rfl, HR, HB⟩ := hrel
    have c1 := (HI.out.below HB.out).c1
    have tl := (HI.out.below HB.out).tbl
    have hsz := HB.out.size
    by_cases hjl : j < N
    · have hjz : (j : Int) < (N : Int) := by omega
      obtain ⟨y, hy⟩ : ∃ y, rs.holds[j]? = some y := ⟨_, List.getElem?_eq_getElem (by have := HN.out; omega)⟩
      obtain ⟨g, rfl, -, hgl, hNc⟩ := (HI.out.below HB.out).hrow.at (by have := HN.out; omega)
      obtain ⟨y0, y1, y2, y3, y4, y5, y6, y7⟩ := (HI.out.below HB.out).hrow.cells hy
      have HF2 := Lib.hid (show (rs.holds.take (j + 1)).map RHold.key = (rs.holds.take j).map RHold.key ++ [y.key] by rw [take_snoc hy]; simp)
      have hfl : (rs.holds.take j).length ≤ j := by rw [List.length_take]; omega
      clear hy
      go_wp2_with (first
        | (at_builtin; refine wpList_appendE eltK _ rfl _ _ rfl w.heap.size _ ((rs.holds.take j).map RHold.key) rfl (HR.out.below ((Below.refl _ wr).alloc (Nat.le_refl _) _)) (some ⟨wr.heap.size, 0, none⟩) [y.key] 1 1 rfl rfl (EIn.new eltK wr y.key _) (fun e => by cases e) (by rw [List.length_map]; omega) (by simp; omega) ?_; intro v' w' hown hgrow hat)
        | fail)
      go_roundg (N - (j + 1))
      case measure => omega
      case rel => exact ⟨j + 1, by omega, by omega, by go_num, by rw [HF2.out]; exact Lib.hid hown, Lib.hid ((HB.out.alloc hsz _).grown hgrow (by simp; omega) (fun k e => (HR.out.lt k e).1))⟩
    · obtain rfl : j = N := by omega
      have e : rs.holds.take j = rs.holds := by rw [← HN.out]; exact List.take_length
      rw [e] at HR
      clear e
      obtain ⟨A7, n7, c7, rfl, hn7⟩ := ERow.sliceN HR.out
      have hle : n7 ≤ 1000 := by rw [hn7, List.length_map]; have := HN.out; omega
      have hs := refSorted_any A7 n7 c7 _ wr hn7.symm hle (sorted_row HR.out)
      have HS := Lib.hid hs
      clear hs hn7
      go_wp2_with fail
      refine HS.out.mono ?_
      rintro e w7 ⟨v, out, rfl, h1, h2, h3, h4⟩
      have H1 := Lib.hid (And.intro h1 (And.intro h2 (And.intro h3 h4)))
      clear h1 h2 h3 h4 HS
      go_wp2_with fail
      go_ret
      obtain ⟨h1, h2, h3, h4⟩ := H1.out
      exact ⟨v, out, rfl, h1.base hsz, h2, fun k => by rw [h3 k, List.mem_map], HB.out.trans (h4.mono hsz)⟩
end Go.Proofs.Ytnfodidfhnofkaa
