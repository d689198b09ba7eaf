/- disk.Write once more: what it answers with the disk's blocks told: none but the cache's row is ever another one. wal: writeSector. -/
import Derived.Test.YtdmkkfpbgpijjaaGreatWbc
import Derived.Test.YtdmkkfpbgpijjaaGreatWbq
namespace Go.Proofs.YtdmkkfpbgpijjaaGreat
open Go.RowKit Go.Deep Go.Maps

def DoesIn (F : Nat → Prop) (db lb mb n : Nat) (st : St) (v : Value) (w : World) (e : Ending) (w' : World) : Prop :=
  e = .returned v ∧ (∃ cv, DiskIn w' db lb mb cv n st ∧ ∀ k, cv.ownBlock = some k → F k ∨ w.heap.size ≤ k) ∧ Moves F w w'
theorem doesIn_mk {F : Nat → Prop} {db lb mb n : Nat} {cv : Value} {st : St} {v : Value} {w w' : World} (h : DiskIn w' db lb mb cv n st) (hm : Moves F w w') (_ : F db) (_ : F lb) (_ : F mb) (f3 : ∀ k, cv.ownBlock = some k → F k ∨ w.heap.size ≤ k) (_ : ∀ k, F k → k < w.heap.size) : DoesIn F db lb mb n st v w (.returned v) w' :=
  ⟨rfl, ⟨cv, h, f3⟩, hm⟩
set_option maxRecDepth 100000 in
set_option maxHeartbeats 2000000 in
theorem write_in (F : Nat → Prop) (db lb mb : Nat) (cv : Value) (n i : Nat) (st : St) (A : Option Addr) (c : Nat) (zs : List Int) (w : World) (h : DiskIn w db lb mb cv n st) (f0 : F db) (f1 : F lb) (f2 : F mb) (f3 : ∀ k, cv.ownBlock = some k → F k) (f4 : ∀ k, F k → k < w.heap.size) (hi : i < n) (hz : zs.length = 32) (hg : Good A c zs w) (hc : st.cache.length ≤ 999) :
    Calls Tryz.prog 19 #[.pointer (some ⟨db, 0, none⟩), .int .i64 i, .slice A 32 c] w (DoesIn F db lb mb n (writeS st i zs) (.int .i64 0) w) := by
  have c0 := h.c0
  obtain ⟨ab, af, rfl, _, hcell⟩ := hg.1 (by omega)
  have hin := Lib.hid (show w.rangeAt ab af (secC zs) from fun j v hv => by
    have hj : j < zs.length := by
      rcases Nat.lt_or_ge j zs.length with h | h
      · exact h
      · rw [List.getElem?_eq_none (by rw [secC_len]; exact h)] at hv; cases hv
    rw [hcell j hj]
    simp [secC, hj] at hv
    simp [hj, hv])
  clear hcell hg
  have hgood := Lib.hid (show goodAt n i = true by unfold goodAt; simp; omega)
  have HY := Lib.hid ((secC_len zs).trans hz)
  have HZ := Lib.hid hz
  clear hz
  have har : ∀ w : World, (Instr.arrayAt 98 (.slice (some ⟨ab, af, none⟩) 32 c)).run Tryz.prog w = .ok (.pointer (some ⟨ab, af, none⟩)) w := fun w => by
    simp [Instr.arrayAt, run_underlying Tryz.underlying98]
  go_enter Tryz.func19, Tryz.ntmps19
  go_wp2_with fail
  refine (there_any db lb n i _ c0).mono ?_
  rintro e w' ⟨rfl, rfl⟩
  rw [hgood.out]
  go_wp2_with (first | (refine wpList_load_mid rfl 98 (.tmp 16) rfl ab af rfl (secC zs) _ hin.out Tryz.underlying98 rfl (by rw [HY.out]; exact size_sec) ?_) | (refine wpList_allocT rfl 98 rfl _ 32 (by simp) info_sec2 ?_; intro W1 e1 b1 t1; have T1 := Lib.hid t1; have E1 := Lib.hid e1; clear t1 e1) | (refine wpList_storeT rfl 98 _ (.tmp 17) rfl _ _ (secC zs) rfl rfl (by rw [HY.out]; exact T1.out) (by rw [HY.out]; exact size_sec) (secC_one _) ?_; intro W2 e2))
  have hs2 := size_store e2
  have hs1 := E1.out
  have hW2 : Below w.heap.size w W2 := b1.trans (below_store e2 (by omega) (Nat.le_refl _))
  have hd2 := h.below hW2
  have hr2 := range_store e2 (by rw [HY.out]; exact T1.out)
  have k1 : W2.cell? ⟨db, 1, none⟩ = some cv := hd2.c1
  have kf : W2.frozen? ⟨db, 1, none⟩ = false := hd2.fz
  have hlt0 : db < W2.heap.size := hd2.lt0
  have hrow := Lib.hid hd2.row
  have hHW : W2.heap.size = w.heap.size + 1 := by omega
  have hnb : w.heap.size < W2.heap.size := by omega
  have hdn : db < w.heap.size := h.lt0
  clear hs1 hs2 e2
  have HD2 := Lib.hid hd2
  have HB2 := Lib.hid hW2
  have HHW := Lib.hid hHW
  clear hd2 hW2 hHW T1 E1 b1
  generalize hnbe : w.heap.size = nb at *
  have HNB := Lib.hid hnbe
  clear hnbe
  have hu := Tryz.underlying98
  have hi61 : (Tryz.prog.info? 98).map (·.size) = some (secC zs).length := by rw [HY.out]; exact size_sec
  obtain ⟨i0, hi0, hz0, hz1, hz2⟩ := info_parts info_wr
  have hcl := HY.out
  have hf1 := fold_wr i zs HZ.out
  have hC := wrC_len (i, zs) HZ.out
  have hone := Lib.hid (wrC_one (i, zs))
  generalize hCe : wrC (i, zs) = C at *
  have HCE := Lib.hid hCe
  clear hCe
  have hf2 := fold_all C hC
  have k1' : ∀ o : Obj, (W2.alloc o).cell? ⟨db, 1, none⟩ = some cv := fun o => (World.cell?_alloc_lt W2 o _ hlt0).trans k1
  have hne4 : some db ≠ cv.ownBlock := Ne.symm h.ne4
  have hne7 : some nb ≠ cv.ownBlock := fun e => by have := f4 nb (f3 nb e.symm); omega
  have hne8 : nb ≠ db := by omega
  have hlenC := hc
  -- by hand
  refine wp_region_noPanic ?_
  refine wp_region_held_drew (S := fun w' => w'.rangeAt nb 0 (secC zs)) (by kernel_rfl) hr2 (fun hHeld => ?_)
  refine wpAnyH_take (i := 0) (oi := ⟨some 18, _, _, _, _, _⟩) (v := ?v1) rfl (by kernel_rfl) (by kernel_rfl) (by kernel_rfl) (fun _ _ _ h => h) (Or.inl ⟨by rfl, ?y1⟩) (by assumption) ?r1
  case y1 =>
    intro w hSw
    go_simp
    try with_reducible rfl
  simp only [Act.put, List.setIfInBounds_toArray, List.set_cons_zero, List.set_cons_succ]
  refine wpAnyH_take (i := 1) (oi := ⟨some 19, _, _, _, _, _⟩) (v := ?v2) rfl (by kernel_rfl) (by kernel_rfl) (by kernel_rfl) (fun _ _ _ h => h) (Or.inl ⟨by rfl, ?y2⟩) (by assumption) ?r2
  case y2 =>
    intro w hSw
    go_simp
    try with_reducible rfl
  simp only [Act.put, List.setIfInBounds_toArray, List.set_cons_zero, List.set_cons_succ]
  refine wpAnyH_take (i := 2) (oi := ⟨some 20, _, _, _, _, _⟩) (v := ?v3) rfl (by kernel_rfl) (by kernel_rfl) (by kernel_rfl) (fun _ _ _ h => h) (Or.inl ⟨by rfl, ?y3⟩) (by assumption) ?r3
  case y3 =>
    intro w hSw
    go_simp
    try with_reducible rfl
  simp only [Act.put, List.setIfInBounds_toArray, List.set_cons_zero, List.set_cons_succ]
  refine wpAnyH_take (i := 3) (oi := ⟨some 21, _, _, _, _, _⟩) (v := ?v4) rfl (by kernel_rfl) (by kernel_rfl) (by kernel_rfl) (fun _ _ _ h => h) (Or.inl ⟨by rfl, ?y4⟩) (by assumption) ?r4
  case y4 =>
    intro w hSw
    go_simp
    try with_reducible rfl
  simp only [Act.put, List.setIfInBounds_toArray, List.set_cons_zero, List.set_cons_succ]
  refine wpAnyH_take (i := 5) (oi := ⟨some 23, _, _, _, _, _⟩) (v := ?v5) rfl (by kernel_rfl) (by kernel_rfl) (by kernel_rfl) (fun _ _ _ h => h) (Or.inl ⟨by rfl, ?y5⟩) (by assumption) ?r5
  case y5 =>
    intro w hSw
    go_simp
    try with_reducible rfl
  simp only [Act.put, List.setIfInBounds_toArray, List.set_cons_zero, List.set_cons_succ]
  refine wpAnyH_take (i := 6) (oi := ⟨some 24, _, _, _, _, _⟩) (v := _) rfl (by kernel_rfl) (by kernel_rfl) (by kernel_rfl) (fun _ _ _ h => h) (yieldsIf_load_mid (by rfl) _ _ rfl _ _ rfl _ _ (fun w hSw => hSw) hu rfl hi61) (by assumption) ?_
  simp only [Act.put, List.setIfInBounds_toArray, List.set_cons_zero, List.set_cons_succ]
  refine wpAnyH_take (i := 7) (oi := ⟨some 25, _, _, _, _, _⟩) (v := ?v6) rfl (by kernel_rfl) (by kernel_rfl) (by kernel_rfl) (fun _ _ _ h => h) (Or.inl ⟨by rfl, ?y6⟩) (by assumption) ?r6
  case y6 =>
    intro w hSw
    go_simp
    try with_reducible rfl
  simp only [Act.put, List.setIfInBounds_toArray, List.set_cons_zero, List.set_cons_succ]
  refine wpAnyH_ready (rs := [4, 8]) (by kernel_rfl) (by simp) ?_
  refine AllReadyH.cons (o := ⟨some 22, _, _, _, _, _⟩) rfl (fun K hK => ?_) (AllReadyH.cons (o := ⟨some 26, _, _, _, _, _⟩) rfl (fun K hK => ?_) AllReadyH.nil)
  · go_simp
    refine hK.out _ _ ?_ (fun hHeld => ?_)
    · exact hHeld
    clear hK K
    try simp only [Act.put, List.setIfInBounds_toArray, List.set_cons_zero, List.set_cons_succ]
    refine wpAnyH_ready (rs := [8]) (by kernel_rfl) (by simp) ?_
    refine AllReadyH.cons (o := ⟨some 26, _, _, _, _, _⟩) rfl (fun K hK => ?_) AllReadyH.nil
    go_simp
    refine hK.out _ _ ?_ (fun hHeld => ?_)
    · exact World.rangeAt_alloc hr2 _
    clear hK K
    try simp only [Act.put, List.setIfInBounds_toArray, List.set_cons_zero, List.set_cons_succ]
    refine wpAnyH_ready (rs := [9]) (by kernel_rfl) (by simp) ?_
    refine AllReadyH.cons (o := ⟨some 27, _, _, _, _, _⟩) rfl (fun K hK => ?_) AllReadyH.nil
    refine step_append_lies _ (by rfl) _ _ _ (by rfl) 0 100 i0 _ 33 40 Tryz.underlying66 hi0 hz0 hz1 hz2 (by simp [Value.cells]) (by omega) cv st.cache.length (st.cache.flatMap wrC) (by rfl) ((hrow.out.alloc _).drew) ⟨W2.heap.size, 0, none⟩ 1 1 C (by rfl) (by simp [hC]) (World.news_of_block (cs := C.toArray) (t := 100) (fr := (0, 0)) (heap_alloc_new W2 _)) hone.out (by omega) (by simp only [maxLen]; omega) (by omega) (by omega) (W2.heap.size + 1) (by simp) ?_
    intro gg cap w1 hown1 hgrow hat hlt
    have k1b : w1.cell? ⟨db, 1, none⟩ = some cv := (World.cell?_of_block (a := ⟨db, 1, none⟩) (hgrow.block db (by simp; omega) hne4)).trans (k1' _)
    have kfb : w1.frozen? ⟨db, 1, none⟩ = false := ((World.frozen?_of_block (a := ⟨db, 1, none⟩) (hgrow.block db (by simp; omega) hne4)).trans (World.frozen?_alloc_past _ db 1 hlt0)).trans kf
    refine hK.out _ _ ?_ (fun hHeld => ?_)
    · exact rangeAt_of_block' (hgrow.block nb (by simp; omega) hne7) (World.rangeAt_alloc hr2 _)
    clear hK K
    try simp only [Act.put, List.setIfInBounds_toArray, List.set_cons_zero, List.set_cons_succ]
    refine wpAnyH_take (i := 10) (oi := ⟨some 28, _, _, _, _, _⟩) (v := ?v9) rfl (by kernel_rfl) (by kernel_rfl) (by kernel_rfl) (fun _ _ _ h => h) (Or.inl ⟨by rfl, ?y9⟩) (by assumption) ?r9
    case y9 =>
      intro w hSw
      go_simp
      try with_reducible rfl
    simp only [Act.put, List.setIfInBounds_toArray, List.set_cons_zero, List.set_cons_succ]
    refine wpAnyH_take (i := 11) (oi := ⟨some 29, _, _, _, _, _⟩) (v := ?v10) rfl (by kernel_rfl) (by kernel_rfl) (by kernel_rfl) (fun _ _ _ h => h) (Or.inl ⟨by rfl, ?y10⟩) (by assumption) ?r10
    case y10 =>
      intro w hSw
      go_simp
      try with_reducible rfl
    simp only [Act.put, List.setIfInBounds_toArray, List.set_cons_zero, List.set_cons_succ]
    refine wpAnyH_ready (rs := [12]) (by kernel_rfl) (by simp) ?_
    refine AllReadyH.cons (o := ⟨none, _, _, _, _, _⟩) rfl (fun K hK => ?_) AllReadyH.nil
    go_simp
    refine hK.out _ _ ?_ (fun hHeld => ?_)
    · exact range_setCell_apart hHeld (by simpa using hne8)
    clear hK K
    try simp only [Act.put, List.setIfInBounds_toArray, List.set_cons_zero, List.set_cons_succ]
    refine wpAnyH_done (by kernel_rfl) ?_ _
    refine NoPanic.normal ?_
    clear hf1 hf2 hcl
    have hnn := h.n2
    have k2b : (w1.setCell ⟨db, 1, none⟩ (Value.slice (some ⟨gg, 0, none⟩) (st.cache.length + 1) cap)).cell? ⟨db, 2, none⟩ = some (.map (some mb)) :=
      (World.cell?_setCell_other _ _ _ _ (by simp)).trans ((World.cell?_of_block (a := ⟨db, 2, none⟩) (hgrow.block db (by simp; omega) hne4)).trans ((World.cell?_alloc_lt W2 _ ⟨db, 2, none⟩ hlt0).trans HD2.out.c2))
    have hmb : (w1.setCell ⟨db, 1, none⟩ (Value.slice (some ⟨gg, 0, none⟩) (st.cache.length + 1) cap)).ownsMap Tryz.prog 3 secR mb st.cache.length (mapOf st.cache) :=
      World.ownsMap.setCell (map_kept HD2.out.map ((hgrow.block mb (by have := HD2.out.map.lt; simp; omega) (Ne.symm HD2.out.ne6)).trans (Below.heap_alloc W2 _ mb HD2.out.map.lt))) (Ne.symm h.ne2) _
    have hrn : (w1.setCell ⟨db, 1, none⟩ (Value.slice (some ⟨gg, 0, none⟩) (st.cache.length + 1) cap)).rangeAt nb 0 (secC zs) := by assumption
    have hlt3 : db < (w1.setCell ⟨db, 1, none⟩ (Value.slice (some ⟨gg, 0, none⟩) (st.cache.length + 1) cap)).heap.size := by have := hgrow.size; simp at this ⊢; omega
    have hnb3 : nb < (w1.setCell ⟨db, 1, none⟩ (Value.slice (some ⟨gg, 0, none⟩) (st.cache.length + 1) cap)).heap.size := by have := hgrow.size; simp at this ⊢; omega
    have hnm : nb ≠ mb := fun e => by have := f4 mb f2; omega
    have HG := Lib.hid (fun (W4 : World) hmp hmv => HD2.out.written (F := F) (i := i) (zs := zs) (W4 := W4) hi HZ.out hgrow (HCE.out ▸ hown1) hat hmp hmv f0 f2 f3)
    generalize (w1.setCell ⟨db, 1, none⟩ (Value.slice (some ⟨gg, 0, none⟩) (st.cache.length + 1) cap)) = W3 at *
    go_wp2
    refine wp_region_noPanic ?_
    refine wp_region_held_drew (S := fun w' => w'.cell? ⟨db, 2, none⟩ = some (.map (some mb)) ∧ w'.rangeAt nb 0 (secC zs)) (by kernel_rfl) ⟨k2b, hrn⟩ (fun hHeld => ?_)
    refine wpAnyH_take (i := 0) (oi := ⟨some 30, _, _, _, _, _⟩) (v := ?v17) rfl (by kernel_rfl) (by kernel_rfl) (by kernel_rfl) (fun _ _ _ h => h) (Or.inl ⟨by rfl, ?y17⟩) (by assumption) ?r17
    case y17 =>
      intro w hSw; obtain ⟨hSw, hSw2⟩ := hSw
      go_simp
      try with_reducible rfl
    simp only [Act.put, List.setIfInBounds_toArray, List.set_cons_zero, List.set_cons_succ]
    refine wpAnyH_take (i := 1) (oi := ⟨some 31, _, _, _, _, _⟩) (v := ?v18) rfl (by kernel_rfl) (by kernel_rfl) (by kernel_rfl) (fun _ _ _ h => h) (Or.inl ⟨by rfl, ?y18⟩) (by assumption) ?r18
    case y18 =>
      intro w hSw; obtain ⟨hSw, hSw2⟩ := hSw
      go_simp
      try with_reducible rfl
    simp only [Act.put, List.setIfInBounds_toArray, List.set_cons_zero, List.set_cons_succ]
    refine wpAnyH_take (i := 2) (oi := ⟨some 32, _, _, _, _, _⟩) (v := ?v19) rfl (by kernel_rfl) (by kernel_rfl) (by kernel_rfl) (fun _ _ _ h => h) (Or.inl ⟨by rfl, ?y19⟩) (by assumption) ?r19
    case y19 =>
      intro w hSw; obtain ⟨hSw, hSw2⟩ := hSw
      go_simp
      try with_reducible rfl
    simp only [Act.put, List.setIfInBounds_toArray, List.set_cons_zero, List.set_cons_succ]
    refine wpAnyH_take (i := 3) (oi := ⟨some 33, _, _, _, _, _⟩) (v := ?v20) rfl (by kernel_rfl) (by kernel_rfl) (by kernel_rfl) (fun _ _ _ h => h) (Or.inl ⟨by rfl, ?y20⟩) (by assumption) ?r20
    case y20 =>
      intro w hSw; obtain ⟨hSw, hSw2⟩ := hSw
      go_simp
      try with_reducible rfl
    simp only [Act.put, List.setIfInBounds_toArray, List.set_cons_zero, List.set_cons_succ]
    refine wpAnyH_take (i := 4) (oi := ⟨some 34, _, _, _, _, _⟩) (v := ?v21) rfl (by kernel_rfl) (by kernel_rfl) (by kernel_rfl) (fun _ _ _ h => h) (Or.inl ⟨by rfl, ?y21⟩) (by assumption) ?r21
    case y21 =>
      intro w hSw; obtain ⟨hSw, hSw2⟩ := hSw
      go_simp
      try with_reducible rfl
    simp only [Act.put, List.setIfInBounds_toArray, List.set_cons_zero, List.set_cons_succ]
    refine wpAnyH_take (i := 5) (oi := ⟨some 35, _, _, _, _, _⟩) (v := _) rfl (by kernel_rfl) (by kernel_rfl) (by kernel_rfl) (fun _ _ _ h => h) (yieldsIf_load_mid (by rfl) _ _ rfl _ _ rfl _ _ (fun w hSw => hSw.2) hu rfl hi61) (by assumption) ?_
    simp only [Act.put, List.setIfInBounds_toArray, List.set_cons_zero, List.set_cons_succ]
    refine wpAnyH_ready (rs := [6]) (by kernel_rfl) (by simp) ?_
    refine AllReadyH.cons (o := ⟨none, _, _, _, _, _⟩) rfl (fun K hK => ?_) AllReadyH.nil
    refine step_mapUpdate (by rfl) _ _ _ _ (by rfl) 3 98 intK Tryz.underlying65 secR mb st.cache.length (mapOf st.cache) (by rfl) hmb (by simp only [maxLen]; omega) _ _ (keyL i) (by rfl) (by rfl) (keyI i (by omega)) (secD zs) [] (secR_mk zs) ?_
    intro W4 hown4 hgrow4
    refine hK.out _ _ ?_ (fun hHeld => ?_)
    · exact ⟨(World.cell?_of_block (a := ⟨db, 2, none⟩) (hgrow4.block db hlt3 (fun e => h.ne2 (by injection e)))).trans k2b, rangeAt_of_block' (hgrow4.block nb hnb3 (fun e => hnm (by injection e))) hrn⟩
    clear hK K
    refine wpAnyH_done (by kernel_rfl) ?_ _
    refine NoPanic.normal ?_
    have hfin := HG.out W4 ⟨hgrow4.os, hgrow4.tape, hgrow4.output, hgrow4.size, hgrow4.block⟩ hown4
    clear HG
    go_wp2
    go_ret
    refine doesIn_mk hfin.1 ((moves_of_below (F := F) (by rw [HNB.out]; exact HB2.out)).trans hfin.2 (fun _ e => .inl e)) f0 f1 f2 ?_ (by rw [HNB.out]; exact f4)
    intro k hk
    have hk' : gg = k := by simpa [Value.ownBlock] using hk
    subst hk'
    rw [HNB.out]
    exact hat.elim (fun e => .inl (f3 _ e)) (fun e => .inr (by omega))
  · go_simp
    refine hK.out _ _ ?_ (fun hHeld => ?_)
    · exact World.rangeAt_alloc hr2 _
    clear hK K
    try simp only [Act.put, List.setIfInBounds_toArray, List.set_cons_zero, List.set_cons_succ]
    refine wpAnyH_ready (rs := [4]) (by kernel_rfl) (by simp) ?_
    refine AllReadyH.cons (o := ⟨some 22, _, _, _, _, _⟩) rfl (fun K hK => ?_) AllReadyH.nil
    go_simp
    refine hK.out _ _ ?_ (fun hHeld => ?_)
    · exact hHeld
    clear hK K
    try simp only [Act.put, List.setIfInBounds_toArray, List.set_cons_zero, List.set_cons_succ]
    refine wpAnyH_ready (rs := [9]) (by kernel_rfl) (by simp) ?_
    refine AllReadyH.cons (o := ⟨some 27, _, _, _, _, _⟩) rfl (fun K hK => ?_) AllReadyH.nil
    refine step_append_lies _ (by rfl) _ _ _ (by rfl) 0 100 i0 _ 33 40 Tryz.underlying66 hi0 hz0 hz1 hz2 (by simp [Value.cells]) (by omega) cv st.cache.length (st.cache.flatMap wrC) (by rfl) ((hrow.out.alloc _).drew) ⟨W2.heap.size, 0, none⟩ 1 1 C (by rfl) (by simp [hC]) (World.news_of_block (cs := C.toArray) (t := 100) (fr := (0, 0)) (heap_alloc_new W2 _)) hone.out (by omega) (by simp only [maxLen]; omega) (by omega) (by omega) (W2.heap.size + 1) (by simp) ?_
    intro gg cap w1 hown1 hgrow hat hlt
    have k1b : w1.cell? ⟨db, 1, none⟩ = some cv := (World.cell?_of_block (a := ⟨db, 1, none⟩) (hgrow.block db (by simp; omega) hne4)).trans (k1' _)
    have kfb : w1.frozen? ⟨db, 1, none⟩ = false := ((World.frozen?_of_block (a := ⟨db, 1, none⟩) (hgrow.block db (by simp; omega) hne4)).trans (World.frozen?_alloc_past _ db 1 hlt0)).trans kf
    refine hK.out _ _ ?_ (fun hHeld => ?_)
    · exact rangeAt_of_block' (hgrow.block nb (by simp; omega) hne7) (World.rangeAt_alloc hr2 _)
    clear hK K
    try simp only [Act.put, List.setIfInBounds_toArray, List.set_cons_zero, List.set_cons_succ]
    refine wpAnyH_take (i := 10) (oi := ⟨some 28, _, _, _, _, _⟩) (v := ?v14) rfl (by kernel_rfl) (by kernel_rfl) (by kernel_rfl) (fun _ _ _ h => h) (Or.inl ⟨by rfl, ?y14⟩) (by assumption) ?r14
    case y14 =>
      intro w hSw
      go_simp
      try with_reducible rfl
    simp only [Act.put, List.setIfInBounds_toArray, List.set_cons_zero, List.set_cons_succ]
    refine wpAnyH_take (i := 11) (oi := ⟨some 29, _, _, _, _, _⟩) (v := ?v15) rfl (by kernel_rfl) (by kernel_rfl) (by kernel_rfl) (fun _ _ _ h => h) (Or.inl ⟨by rfl, ?y15⟩) (by assumption) ?r15
    case y15 =>
      intro w hSw
      go_simp
      try with_reducible rfl
    simp only [Act.put, List.setIfInBounds_toArray, List.set_cons_zero, List.set_cons_succ]
    refine wpAnyH_ready (rs := [12]) (by kernel_rfl) (by simp) ?_
    refine AllReadyH.cons (o := ⟨none, _, _, _, _, _⟩) rfl (fun K hK => ?_) AllReadyH.nil
    go_simp
    refine hK.out _ _ ?_ (fun hHeld => ?_)
    · exact range_setCell_apart hHeld (by simpa using hne8)
    clear hK K
    try simp only [Act.put, List.setIfInBounds_toArray, List.set_cons_zero, List.set_cons_succ]
    refine wpAnyH_done (by kernel_rfl) ?_ _
    refine NoPanic.normal ?_
    clear hf1 hf2 hcl
    have hnn := h.n2
    have k2b : (w1.setCell ⟨db, 1, none⟩ (Value.slice (some ⟨gg, 0, none⟩) (st.cache.length + 1) cap)).cell? ⟨db, 2, none⟩ = some (.map (some mb)) :=
      (World.cell?_setCell_other _ _ _ _ (by simp)).trans ((World.cell?_of_block (a := ⟨db, 2, none⟩) (hgrow.block db (by simp; omega) hne4)).trans ((World.cell?_alloc_lt W2 _ ⟨db, 2, none⟩ hlt0).trans HD2.out.c2))
    have hmb : (w1.setCell ⟨db, 1, none⟩ (Value.slice (some ⟨gg, 0, none⟩) (st.cache.length + 1) cap)).ownsMap Tryz.prog 3 secR mb st.cache.length (mapOf st.cache) :=
      World.ownsMap.setCell (map_kept HD2.out.map ((hgrow.block mb (by have := HD2.out.map.lt; simp; omega) (Ne.symm HD2.out.ne6)).trans (Below.heap_alloc W2 _ mb HD2.out.map.lt))) (Ne.symm h.ne2) _
    have hrn : (w1.setCell ⟨db, 1, none⟩ (Value.slice (some ⟨gg, 0, none⟩) (st.cache.length + 1) cap)).rangeAt nb 0 (secC zs) := by assumption
    have hlt3 : db < (w1.setCell ⟨db, 1, none⟩ (Value.slice (some ⟨gg, 0, none⟩) (st.cache.length + 1) cap)).heap.size := by have := hgrow.size; simp at this ⊢; omega
    have hnb3 : nb < (w1.setCell ⟨db, 1, none⟩ (Value.slice (some ⟨gg, 0, none⟩) (st.cache.length + 1) cap)).heap.size := by have := hgrow.size; simp at this ⊢; omega
    have hnm : nb ≠ mb := fun e => by have := f4 mb f2; omega
    have HG := Lib.hid (fun (W4 : World) hmp hmv => HD2.out.written (F := F) (i := i) (zs := zs) (W4 := W4) hi HZ.out hgrow (HCE.out ▸ hown1) hat hmp hmv f0 f2 f3)
    generalize (w1.setCell ⟨db, 1, none⟩ (Value.slice (some ⟨gg, 0, none⟩) (st.cache.length + 1) cap)) = W3 at *
    go_wp2
    refine wp_region_noPanic ?_
    refine wp_region_held_drew (S := fun w' => w'.cell? ⟨db, 2, none⟩ = some (.map (some mb)) ∧ w'.rangeAt nb 0 (secC zs)) (by kernel_rfl) ⟨k2b, hrn⟩ (fun hHeld => ?_)
    refine wpAnyH_take (i := 0) (oi := ⟨some 30, _, _, _, _, _⟩) (v := ?v517) rfl (by kernel_rfl) (by kernel_rfl) (by kernel_rfl) (fun _ _ _ h => h) (Or.inl ⟨by rfl, ?y517⟩) (by assumption) ?r517
    case y517 =>
      intro w hSw; obtain ⟨hSw, hSw2⟩ := hSw
      go_simp
      try with_reducible rfl
    simp only [Act.put, List.setIfInBounds_toArray, List.set_cons_zero, List.set_cons_succ]
    refine wpAnyH_take (i := 1) (oi := ⟨some 31, _, _, _, _, _⟩) (v := ?v518) rfl (by kernel_rfl) (by kernel_rfl) (by kernel_rfl) (fun _ _ _ h => h) (Or.inl ⟨by rfl, ?y518⟩) (by assumption) ?r518
    case y518 =>
      intro w hSw; obtain ⟨hSw, hSw2⟩ := hSw
      go_simp
      try with_reducible rfl
    simp only [Act.put, List.setIfInBounds_toArray, List.set_cons_zero, List.set_cons_succ]
    refine wpAnyH_take (i := 2) (oi := ⟨some 32, _, _, _, _, _⟩) (v := ?v519) rfl (by kernel_rfl) (by kernel_rfl) (by kernel_rfl) (fun _ _ _ h => h) (Or.inl ⟨by rfl, ?y519⟩) (by assumption) ?r519
    case y519 =>
      intro w hSw; obtain ⟨hSw, hSw2⟩ := hSw
      go_simp
      try with_reducible rfl
    simp only [Act.put, List.setIfInBounds_toArray, List.set_cons_zero, List.set_cons_succ]
    refine wpAnyH_take (i := 3) (oi := ⟨some 33, _, _, _, _, _⟩) (v := ?v520) rfl (by kernel_rfl) (by kernel_rfl) (by kernel_rfl) (fun _ _ _ h => h) (Or.inl ⟨by rfl, ?y520⟩) (by assumption) ?r520
    case y520 =>
      intro w hSw; obtain ⟨hSw, hSw2⟩ := hSw
      go_simp
      try with_reducible rfl
    simp only [Act.put, List.setIfInBounds_toArray, List.set_cons_zero, List.set_cons_succ]
    refine wpAnyH_take (i := 4) (oi := ⟨some 34, _, _, _, _, _⟩) (v := ?v521) rfl (by kernel_rfl) (by kernel_rfl) (by kernel_rfl) (fun _ _ _ h => h) (Or.inl ⟨by rfl, ?y521⟩) (by assumption) ?r521
    case y521 =>
      intro w hSw; obtain ⟨hSw, hSw2⟩ := hSw
      go_simp
      try with_reducible rfl
    simp only [Act.put, List.setIfInBounds_toArray, List.set_cons_zero, List.set_cons_succ]
    refine wpAnyH_take (i := 5) (oi := ⟨some 35, _, _, _, _, _⟩) (v := _) rfl (by kernel_rfl) (by kernel_rfl) (by kernel_rfl) (fun _ _ _ h => h) (yieldsIf_load_mid (by rfl) _ _ rfl _ _ rfl _ _ (fun w hSw => hSw.2) hu rfl hi61) (by assumption) ?_
    simp only [Act.put, List.setIfInBounds_toArray, List.set_cons_zero, List.set_cons_succ]
    refine wpAnyH_ready (rs := [6]) (by kernel_rfl) (by simp) ?_
    refine AllReadyH.cons (o := ⟨none, _, _, _, _, _⟩) rfl (fun K hK => ?_) AllReadyH.nil
    refine step_mapUpdate (by rfl) _ _ _ _ (by rfl) 3 98 intK Tryz.underlying65 secR mb st.cache.length (mapOf st.cache) (by rfl) hmb (by simp only [maxLen]; omega) _ _ (keyL i) (by rfl) (by rfl) (keyI i (by omega)) (secD zs) [] (secR_mk zs) ?_
    intro W4 hown4 hgrow4
    refine hK.out _ _ ?_ (fun hHeld => ?_)
    · exact ⟨(World.cell?_of_block (a := ⟨db, 2, none⟩) (hgrow4.block db hlt3 (fun e => h.ne2 (by injection e)))).trans k2b, rangeAt_of_block' (hgrow4.block nb hnb3 (fun e => hnm (by injection e))) hrn⟩
    clear hK K
    refine wpAnyH_done (by kernel_rfl) ?_ _
    refine NoPanic.normal ?_
    have hfin := HG.out W4 ⟨hgrow4.os, hgrow4.tape, hgrow4.output, hgrow4.size, hgrow4.block⟩ hown4
    clear HG
    go_wp2
    go_ret
    refine doesIn_mk hfin.1 ((moves_of_below (F := F) (by rw [HNB.out]; exact HB2.out)).trans hfin.2 (fun _ e => .inl e)) f0 f1 f2 ?_ (by rw [HNB.out]; exact f4)
    intro k hk
    have hk' : gg = k := by simpa [Value.ownBlock] using hk
    subst hk'
    rw [HNB.out]
    exact hat.elim (fun e => .inl (f3 _ e)) (fun e => .inr (by omega))

end Go.Proofs.YtdmkkfpbgpijjaaGreat
namespace Go.Proofs.YtdmkkfpbgpijjaaGreat
open Go.RowKit Go.Deep Go.Maps
set_option linter.unusedVariables false

/-- A log and its disk, its blocks told. -/
structure LogIn (w : World) (lb db sb mb : Nat) (cv : Value) (N : Nat) (st : St) (lg : LogD) : Prop where
  log : LI5 w (· = lb) lb db lg
  disk : DiskIn w db sb mb cv N st
  n0 : lb ≠ db
  n1 : lb ≠ sb
  n2 : lb ≠ mb
  n3 : cv.ownBlock ≠ some lb
/-- The blocks that such a call turns. -/
def FW (lb db sb mb : Nat) (cv : Value) (k : Nat) : Prop := k = lb ∨ k = db ∨ k = sb ∨ k = mb ∨ cv.ownBlock = some k
def FWd (db sb mb : Nat) (cv : Value) (k : Nat) : Prop := k = db ∨ k = sb ∨ k = mb ∨ cv.ownBlock = some k
theorem LogIn.below {w w' : World} {lb db sb mb : Nat} {cv : Value} {N : Nat} {st : St} {lg : LogD} (h : LogIn w lb db sb mb cv N st lg) (hb : Below w.heap.size w w') : LogIn w' lb db sb mb cv N st lg :=
  ⟨h.log.block (hb.block lb h.log.lt) hb.size, h.disk.below hb, h.n0, h.n1, h.n2, h.n3⟩
theorem LogIn.fwd {w : World} {lb db sb mb : Nat} {cv : Value} {N : Nat} {st : St} {lg : LogD} (h : LogIn w lb db sb mb cv N st lg) : ¬ FWd db sb mb cv lb := by
  rintro (e | e | e | e)
  · exact h.n0 e
  · exact h.n1 e
  · exact h.n2 e
  · exact h.n3 e
def WSays (lb db sb mb : Nat) (cv : Value) (N : Nat) (st : St) (lg : LogD) (w : World) (e : Ending) (w' : World) : Prop :=
  e = .returned (.tuple #[]) ∧ (∃ cv', LogIn w' lb db sb mb cv' N st lg ∧ ∀ k, cv'.ownBlock = some k → cv.ownBlock = some k ∨ w.heap.size ≤ k) ∧ Moves (FW lb db sb mb cv) w w'
/-- What holds once the sector is laid in a box. -/
structure WT (w : World) (lb db sb mb : Nat) (cv : Value) (N : Nat) (st : St) (next first sure : Nat) (A : Option Addr) (l c : Nat) (zs : List Int) (beg : Bool) (W : World) : Prop where
  log : LogIn W lb db sb mb cv N st ⟨next, first, sure⟩
  g : Good A c zs W
  x0 : W.cell? ⟨w.heap.size, 0, none⟩ = some (.int .i64 next)
  x1 : W.cell? ⟨w.heap.size, 1, none⟩ = some (.int .i64 first)
  x2 : W.cell? ⟨w.heap.size, 2, none⟩ = some (.bool beg)
  x3 : W.cell? ⟨w.heap.size, 3, none⟩ = some (.slice A l c)
  b : Below w.heap.size w W
  lt : w.heap.size < W.heap.size
theorem WT.below {w : World} {lb db sb mb : Nat} {cv : Value} {N : Nat} {st : St} {next first sure : Nat} {A : Option Addr} {l c : Nat} {zs : List Int} {beg : Bool} {W W' : World} (h : WT w lb db sb mb cv N st next first sure A l c zs beg W) (hb : Below W.heap.size W W') : WT w lb db sb mb cv N st next first sure A l c zs beg W' :=
  ⟨h.log.below hb, h.g.below hb, (hb.cell (p := ⟨w.heap.size, 0, none⟩) h.lt).trans h.x0, (hb.cell (p := ⟨w.heap.size, 1, none⟩) h.lt).trans h.x1, (hb.cell (p := ⟨w.heap.size, 2, none⟩) h.lt).trans h.x2, (hb.cell (p := ⟨w.heap.size, 3, none⟩) h.lt).trans h.x3, below_more h.b hb (Nat.le_refl _), Nat.lt_of_lt_of_le h.lt hb.size⟩
theorem wt_new {w : World} {lb db sb mb : Nat} {cv : Value} {N : Nat} {st : St} {next first sure : Nat} {A : Option Addr} {l c : Nat} {zs : List Int} {beg : Bool} (h : LogIn w lb db sb mb cv N st ⟨next, first, sure⟩) (g : Good A c zs w) : WT w lb db sb mb cv N st next first sure A l c zs beg (w.alloc (.cells #[.int .i64 next, .int .i64 first, .bool beg, .slice A l c] 72)) := by
  have hb : Below w.heap.size w (w.alloc (.cells #[.int .i64 next, .int .i64 first, .bool beg, .slice A l c] 72)) := (Below.refl _ _).alloc (Nat.le_refl _) _
  have hc : ∀ j, (w.alloc (.cells #[.int .i64 next, .int .i64 first, .bool beg, .slice A l c] 72)).cell? ⟨w.heap.size, j, none⟩ = _ := fun j => cell_of_row _ _ j _ 72 (0, 0) (heap_alloc_new w _)
  exact ⟨h.below hb, g.below hb, (hc 0).trans rfl, (hc 1).trans rfl, (hc 2).trans rfl, (hc 3).trans rfl, hb, by simp⟩
theorem WT.drew {w : World} {lb db sb mb : Nat} {cv : Value} {N : Nat} {st : St} {next first sure : Nat} {A : Option Addr} {l c : Nat} {zs : List Int} {beg : Bool} {W : World} (h : WT w lb db sb mb cv N st next first sure A l c zs beg W) : WT w lb db sb mb cv N st next first sure A l c zs beg W.drew := h.below (below_drewN (Below.refl _ _) 1)
set_option maxRecDepth 100000 in
set_option maxHeartbeats 2000000 in
theorem writeSec_any (lb db sb mb : Nat) (cv : Value) (N : Nat) (st : St) (next first sure : Nat) (A : Option Addr) (l c : Nat) (zs : List Int) (beg : Bool) (w : World) (h : LogIn w lb db sb mb cv N st ⟨next, first, sure⟩) (hl : zs.length = l) (h16 : l ≤ 16) (hz : isBytes zs) (g : Good A c zs w) (hn1 : 1 ≤ next) (hn : next < 4294967296) (hf : first < 4294967296) (hc : st.cache.length ≤ 999) :
    Calls Tryz.prog 46 #[.pointer (some ⟨lb, 0, none⟩), .slice A l c, .bool beg] w (WSays lb db sb mb cv N (writeS st (placeOf N next) (secL ⟨next, first, zs, beg⟩)) ⟨next + 1, first, sure⟩ w) := by
  have c0 := h.log.c0
  have c1 := h.log.c1
  have c2 := h.log.c2
  simp only at c1 c2
  obtain ⟨hN1, hN2⟩ : 1 ≤ N ∧ N ≤ 512 := ⟨h.disk.n1, h.disk.n2⟩
  have ok : okS ⟨next, first, zs, beg⟩ := ⟨hn, hf, by show zs.length ≤ 16; omega, hz⟩
  have HL := Lib.hid hl
  have HH := Lib.hid h
  have HG := Lib.hid g
  have HOK := Lib.hid ok
  have hlb := h.log.lt
  clear hl hz g ok h
  go_enter Tryz.func46, Tryz.ntmps46
  go_wp2
  go_region
  refine cutW (wt_new (l := l) (beg := beg) HH.out HG.out).drew ?_
  intro W1 h1
  have H1 := Lib.hid h1.drew
  have p0 := h1.log.log.c0
  have p1 := h1.x0
  have p2 := h1.x1
  have p3 := h1.x2
  have p4 := h1.x3
  obtain ⟨q, hq⟩ : ∃ q, placeOf N next = q := ⟨_, rfl⟩
  have cP := fun W => place_any next N q hn1 (by omega) hN1 hN2 hq W
  have cS := fun W (hW : WT w lb db sb mb cv N st next first sure A l c zs beg W) => sectors_any db sb N W hW.log.disk.c0
  have cB := fun W (hW : WT w lb db sb mb cv N st next first sure A l c zs beg W) => bytes_any ⟨next, first, zs, beg⟩ A c l HL.out HOK.out W hW.g
  simp only at cB
  have hqN : q < N := by rw [← hq]; exact placeOf_lt _ _ hN1
  have cW := fun W (hW : WT w lb db sb mb cv N st next first sure A l c zs beg W) (Ab : Option Addr) (cb : Nat) (gb : Good Ab cb (secL ⟨next, first, zs, beg⟩) W) => write_in (FWd db sb mb cv) db sb mb cv N q st Ab cb (secL ⟨next, first, zs, beg⟩) W hW.log.disk (.inl rfl) (.inr (.inl rfl)) (.inr (.inr (.inl rfl))) (fun k hk => .inr (.inr (.inr hk))) (by
    rintro k (e | e | e | e)
    · rw [e]; exact hW.log.disk.lt0
    · rw [e]; exact hW.log.disk.lt1
    · rw [e]; exact hW.log.disk.map.lt
    · exact (hW.log.disk.row.lt k e).2) hqN (secL_length HOK.out) gb hc
  have hnw : ¬ FWd db sb mb cv w.heap.size := by
    rintro (e | e | e | e)
    · have := HH.out.disk.lt0; omega
    · have := HH.out.disk.lt1; omega
    · have := HH.out.disk.map.lt; omega
    · have := (HH.out.disk.row.lt _ e).2; omega
  have HK := Lib.hid (show ∀ V V2 : World, WT w lb db sb mb cv N st next first sure A l c zs beg V → Moves (FWd db sb mb cv) V V2 → V2.cell? ⟨lb, 0, none⟩ = some (.pointer (some ⟨db, 0, none⟩)) ∧ V2.cell? ⟨w.heap.size, 0, none⟩ = some (.int .i64 next) ∧ V2.cell? ⟨w.heap.size, 1, none⟩ = some (.int .i64 first) ∧ V2.cell? ⟨w.heap.size, 2, none⟩ = some (.bool beg) ∧ V2.cell? ⟨w.heap.size, 3, none⟩ = some (.slice A l c) from fun V V2 hv hm => by
    have e0 := hm.block lb hv.log.log.lt hv.log.fwd
    have e1 := hm.block w.heap.size hv.lt hnw
    exact ⟨(World.cell?_of_block (a := ⟨lb, 0, none⟩) e0).trans hv.log.log.c0, (World.cell?_of_block (a := ⟨w.heap.size, 0, none⟩) e1).trans hv.x0, (World.cell?_of_block (a := ⟨w.heap.size, 1, none⟩) e1).trans hv.x1, (World.cell?_of_block (a := ⟨w.heap.size, 2, none⟩) e1).trans hv.x2, (World.cell?_of_block (a := ⟨w.heap.size, 3, none⟩) e1).trans hv.x3⟩)
  have HQ := Lib.hid hq
  have HLN := Lib.hid (secL_length HOK.out)
  clear hq h1 c0 c1 c2
  go_wp2_with fail
  go_region_held3 (fun W => W.cell? ⟨lb, 0, none⟩ = some (.pointer (some ⟨db, 0, none⟩)) ∧ W.cell? ⟨w.heap.size, 0, none⟩ = some (.int .i64 next) ∧ W.cell? ⟨w.heap.size, 1, none⟩ = some (.int .i64 first) ∧ W.cell? ⟨w.heap.size, 2, none⟩ = some (.bool beg) ∧ W.cell? ⟨w.heap.size, 3, none⟩ = some (.slice A l c))
    (first | exact ⟨p0, p1, p2, p3, p4⟩ | assumption)
    (first
    | (go_at_call 53; (with_reducible refine (cS _ (by first | exact H1.out | exact hV)).mono ?_); rintro e w' ⟨rfl, rfl⟩)
    | (go_at_call 58; (with_reducible refine (cP _).mono ?_); rintro e w' ⟨rfl, rfl⟩)
    | (go_at_call 67; (with_reducible refine (cB _ H1.out).mono ?_); rintro e V ⟨vb, rfl, ob, bb⟩; obtain ⟨Ab, cb, rfl, gb⟩ := ob.good; rw [HLN.out]; have hV := H1.out.below bb; have hS : V.cell? ⟨lb, 0, none⟩ = some (.pointer (some ⟨db, 0, none⟩)) ∧ V.cell? ⟨w.heap.size, 0, none⟩ = some (.int .i64 next) ∧ V.cell? ⟨w.heap.size, 1, none⟩ = some (.int .i64 first) ∧ V.cell? ⟨w.heap.size, 2, none⟩ = some (.bool beg) ∧ V.cell? ⟨w.heap.size, 3, none⟩ = some (.slice A l c) := ⟨hV.log.log.c0, hV.x0, hV.x1, hV.x2, hV.x3⟩)
    | (go_at_call 19; (with_reducible refine (cW _ hV Ab cb gb).mono ?_); rintro e V2 ⟨rfl, ⟨cv', hd', ho'⟩, hm'⟩; have hS2 : V2.cell? ⟨lb, 0, none⟩ = some (.pointer (some ⟨db, 0, none⟩)) ∧ V2.cell? ⟨w.heap.size, 0, none⟩ = some (.int .i64 next) ∧ V2.cell? ⟨w.heap.size, 1, none⟩ = some (.int .i64 first) ∧ V2.cell? ⟨w.heap.size, 2, none⟩ = some (.bool beg) ∧ V2.cell? ⟨w.heap.size, 3, none⟩ = some (.slice A l c) := HK.out V V2 hV hm'))
  have hli := hV.log.log.block (hm'.block lb hV.log.log.lt hV.log.fwd) hm'.size
  have HLI := Lib.hid hli
  have HD := Lib.hid hd'
  have HO := Lib.hid ho'
  have HM := Lib.hid hm'
  have HV := Lib.hid hV
  have k1 := hli.c1
  have kf := hli.f1
  have hnx : next ≤ 4294967296 := by omega
  simp only at k1
  clear hli hd' ho' hm' hV hS hS2 cP cS cB cW p0 p1 p2 p3 p4 ob bb gb
  go_wp2
  go_end0
  have hd := HD.out
  have hv := HV.out
  have hol : cv'.ownBlock ≠ some lb := fun e => (HO.out lb e).elim hv.log.fwd (fun x => by have := hv.log.log.lt; omega)
  have hm2 : Moves (· = lb) V2 (V2.setCell ⟨lb, 1, none⟩ (.int .i64 ((next : Int) + 1))) := moves_setCell _ _ _ _ rfl
  have hset := li5_set1 HLI.out (next + 1)
  rw [show ((next + 1 : Nat) : Int) = (next : Int) + 1 by omega] at hset
  refine ⟨rfl, ⟨cv', ⟨hset, ?_, hv.log.n0, hv.log.n1, hv.log.n2, hol⟩, fun k hk => ?_⟩, ?_⟩
  · rw [HQ.out]
    exact hd.kept hm2.size (hm2.block _ hd.lt0 (Ne.symm hv.log.n0)) (hm2.block _ hd.lt1 (Ne.symm hv.log.n1)) (hm2.block _ hd.map.lt (Ne.symm hv.log.n2)) (fun k hk => hm2.block k (hd.row.lt k hk).2 (fun e => hol (e ▸ hk)))
  · rcases HO.out k hk with (e | e | e | e) | e
    · exact absurd (e ▸ hk) hd.ne4
    · exact absurd (e ▸ hk) hd.ne5
    · exact absurd (e ▸ hk) hd.ne6
    · exact .inl e
    · exact .inr (Nat.le_trans hv.b.size e)
  · exact ((moves_of_below (F := FW lb db sb mb cv) hv.b).trans (HM.out.mono (F' := FW lb db sb mb cv) (fun k hk => Or.inr hk)) (fun _ x => .inl x)).trans (hm2.mono (F' := FW lb db sb mb cv) (fun k hk => Or.inl hk)) (fun _ x => .inl x)
end Go.Proofs.YtdmkkfpbgpijjaaGreat
