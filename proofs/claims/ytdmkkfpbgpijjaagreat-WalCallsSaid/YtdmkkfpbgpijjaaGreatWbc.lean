/- disk: Write. The statements' helpers on a disk: Read, Image, Loose, Sectors at DiskAt; full, great, do, begin. -/
import Derived.Test.YtdmkkfpbgpijjaaGreatWbb
import Derived.StillTailTactics
import Derived.BigRegion
namespace Go.Proofs.YtdmkkfpbgpijjaaGreat
open Go.RowKit Go.Deep Go.Maps
attribute [local go_sem ↓] Go.wp_at_zero Go.wp_at_succ

set_option maxRecDepth 100000 in
theorem info_wr : (Tryz.prog.info? 100).map (fun i => (i.zero, i.size, i.bytes)) = some (some (.agg (#[Value.int .i64 0] ++ Array.replicate 32 (Value.int .u8 0))), 33, 40) := by kernel_rfl
theorem lay_list (off : Nat) : ∀ (cs : List Value) (k : Nat) (C : Array Value), off + k + cs.length ≤ C.size → ((cs.zipIdx k).foldl (fun C (x : Value × Nat) => C.setIfInBounds (off + x.2) x.1) C).toList = C.toList.take (off + k) ++ (cs ++ C.toList.drop (off + k + cs.length))
  | [], k, C, _ => by simp
  | c :: cs, k, C, h => by
    rw [List.length_cons] at h
    have e : (((c :: cs).zipIdx k).foldl (fun C (x : Value × Nat) => C.setIfInBounds (off + x.2) x.1) C) = ((cs.zipIdx (k + 1)).foldl (fun C (x : Value × Nat) => C.setIfInBounds (off + x.2) x.1) (C.setIfInBounds (off + k) c)) := rfl
    rw [e, lay_list off cs (k + 1) _ (by rw [Array.size_setIfInBounds]; omega), Array.toList_setIfInBounds]
    have hm : off + k < C.toList.length := by rw [Array.length_toList]; omega
    rw [show off + (k + 1) = off + k + 1 by omega, List.take_succ_eq_append_getElem (by rw [List.length_set]; exact hm), List.take_set, List.getElem_set_self]
    rw [List.drop_set_of_lt (by omega), List.set_eq_of_length_le (by rw [List.length_take]; omega)]
    simp [List.length_cons, Nat.add_assoc, Nat.add_comm 1]
theorem fold_wr (i : Nat) (zs : List Int) (hz : zs.length = 32) : List.foldl (fun (cs : Array Value) (x : Value × Nat) => cs.setIfInBounds (1 + x.snd) x.fst) #[Value.int .i64 (i : Int), Value.int .u8 0, Value.int .u8 0, Value.int .u8 0, Value.int .u8 0, Value.int .u8 0, Value.int .u8 0, Value.int .u8 0, Value.int .u8 0, Value.int .u8 0, Value.int .u8 0, Value.int .u8 0, Value.int .u8 0, Value.int .u8 0, Value.int .u8 0, Value.int .u8 0, Value.int .u8 0, Value.int .u8 0, Value.int .u8 0, Value.int .u8 0, Value.int .u8 0, Value.int .u8 0, Value.int .u8 0, Value.int .u8 0, Value.int .u8 0, Value.int .u8 0, Value.int .u8 0, Value.int .u8 0, Value.int .u8 0, Value.int .u8 0, Value.int .u8 0, Value.int .u8 0, Value.int .u8 0] (secC zs).zipIdx = (wrC (i, zs)).toArray := by
  have hl : (secC zs).length = 32 := (secC_len zs).trans hz
  apply Array.ext'
  rw [lay_list 1 (secC zs) 0 _ (by rw [hl]; simp)]
  rw [hl]
  simp [wrC]
theorem range_setCell_apart {W : World} {b o : Nat} {cs : List Value} {a : Addr} {v : Value} (h : W.rangeAt b o cs) (hne : b ≠ a.block) : (W.setCell a v).rangeAt b o cs := rangeAt_of_block' (RowKit.Below.heap_setCell _ _ _ _ hne) h
theorem fold_all (cs : List Value) (hl : cs.length = 33) : List.foldl (fun (cs : Array Value) (x : Value × Nat) => cs.setIfInBounds x.snd x.fst) #[Value.int .i64 0, Value.int .u8 0, Value.int .u8 0, Value.int .u8 0, Value.int .u8 0, Value.int .u8 0, Value.int .u8 0, Value.int .u8 0, Value.int .u8 0, Value.int .u8 0, Value.int .u8 0, Value.int .u8 0, Value.int .u8 0, Value.int .u8 0, Value.int .u8 0, Value.int .u8 0, Value.int .u8 0, Value.int .u8 0, Value.int .u8 0, Value.int .u8 0, Value.int .u8 0, Value.int .u8 0, Value.int .u8 0, Value.int .u8 0, Value.int .u8 0, Value.int .u8 0, Value.int .u8 0, Value.int .u8 0, Value.int .u8 0, Value.int .u8 0, Value.int .u8 0, Value.int .u8 0, Value.int .u8 0] cs.zipIdx = cs.toArray := by
  have e : (fun (cs : Array Value) (x : Value × Nat) => cs.setIfInBounds x.snd x.fst) = (fun cs x => cs.setIfInBounds (0 + x.snd) x.fst) := by funext cs x; rw [Nat.zero_add]
  rw [e]
  apply Array.ext'
  rw [lay_list 0 cs 0 _ (by rw [hl]; simp)]
  rw [hl]
  simp
theorem step_mapUpdate {P : Program} {ops : Array Oper} {o : Oper} {a : Act} {w : World} {K : Act → World → Prop} {Q : Exit → Act → World → Prop} {E : Prop} (hgd : o.guard = none) (m x v : Operand) (t : TypeId) (hop : o.op = Op.mapUpdate t m x v)
    (k e : TypeId) (Kd : Keyed P k) (ht : P.underlying t = some (.map k e)) (R : Value → Option (DataW Unit × List MemPlace)) (b n : Nat) (D : DataW Unit)
    (hm : a.eval m = .map (some b)) (hown : w.ownsMap P k R b n D) (hn : n < maxLen) (key val : Value) (kl : Lit) (hx : a.eval x = key) (hv : a.eval v = val) (hkey : keyOf P k key = some kl)
    (d : DataW Unit) (ps : List MemPlace) (hval : R val = some (d, ps))
    (h : ∀ w', w'.ownsMap P k R b (n + 1) (D.put kl d) → w.grownBy w' (some b) → K (a.put o.dst undef) w') :
    if Region.wanted o (yielded ops a.tmps) = true then Oper.wp P o a w K Q else E := by
  have hw : Region.wanted o (yielded ops a.tmps) = true := by simp [Region.wanted, hgd]
  rw [if_pos hw]
  obtain ⟨w', hrun, r1, r2⟩ := hown.update Kd ht hn hkey hval
  unfold Oper.wp
  simp [execOp, hop, hm, hx, hv, hrun, Result.andThen]
  exact h w' r1 r2
theorem DiskIn.written {F : Nat → Prop} {W2 w1 W4 : World} {o : Obj} {db lb mb : Nat} {cv : Value} {n : Nat} {st : St} {i : Nat} {zs : List Int} {gg cap : Nat} (h : DiskIn W2 db lb mb cv n st) (hi : i < n) (hz : zs.length = 32)
    (hgrow : (W2.alloc o).drew.grownBy w1 cv.ownBlock) (hown : w1.ownsRow 0 100 33 (.slice (some ⟨gg, 0, none⟩) (st.cache.length + 1) cap) (st.cache.length + 1) (st.cache.flatMap wrC ++ wrC (i, zs)))
    (hat : cv.ownBlock = some gg ∨ gg = W2.heap.size + 1) (hm : (w1.setCell ⟨db, 1, none⟩ (.slice (some ⟨gg, 0, none⟩) (st.cache.length + 1) cap)).grownBy W4 (some mb))
    (hmap : W4.ownsMap Tryz.prog 3 secR mb (st.cache.length + 1) ((mapOf st.cache).put (keyL i) (secD zs))) (f0 : F db) (f2 : F mb) (f3 : ∀ k, cv.ownBlock = some k → F k) :
    DiskIn W4 db lb mb (.slice (some ⟨gg, 0, none⟩) (st.cache.length + 1) cap) n (writeS st i zs) ∧ Moves F W2 W4 := by
  have hsz : (W2.alloc o).drew.heap.size = W2.heap.size + 1 := by simp
  have m1 : Moves F W2 w1 := ((moves_alloc F W2 o).trans (moves_drewN F _ 1) (fun _ e => .inl e)).trans (moves_of_grown (F := F) hgrow (fun k e => f3 k e)) (fun _ e => .inl e)
  have hs1 := hgrow.size
  generalize hv : (Value.slice (some ⟨gg, 0, none⟩) (st.cache.length + 1) cap) = v at *
  have hvb : v.ownBlock = some gg := by rw [← hv]; rfl
  have m2 : Moves (· = db) w1 (w1.setCell ⟨db, 1, none⟩ v) := moves_setCell _ _ _ _ rfl
  have hs3 : (w1.setCell ⟨db, 1, none⟩ v).heap.size = w1.heap.size := by simp
  have m3 : Moves (· = mb) (w1.setCell ⟨db, 1, none⟩ v) W4 := moves_of_grown hm (fun k e => by injection e with e; exact e.symm)
  have g1 : ∀ k, k < W2.heap.size → cv.ownBlock ≠ some k → w1.heap[k]? = W2.heap[k]? := fun k hk hne => by
    rw [hgrow.block k (by omega) (fun e => hne e.symm)]
    exact Below.heap_alloc W2 o k hk
  have hdb1 : w1.heap[db]? = W2.heap[db]? := g1 db h.lt0 h.ne4
  have q1 : w1.cell? ⟨db, 1, none⟩ = some cv := (World.cell?_of_block (a := ⟨db, 1, none⟩) hdb1).trans h.c1
  have k1 : (w1.setCell ⟨db, 1, none⟩ v).cell? ⟨db, 1, none⟩ = some v := World.cell?_setCell_same _ _ _ q1
  have k0 : (w1.setCell ⟨db, 1, none⟩ v).cell? ⟨db, 0, none⟩ = w1.cell? ⟨db, 0, none⟩ := World.cell?_setCell_other _ _ _ _ (by simp)
  have k2 : (w1.setCell ⟨db, 1, none⟩ v).cell? ⟨db, 2, none⟩ = w1.cell? ⟨db, 2, none⟩ := World.cell?_setCell_other _ _ _ _ (by simp)
  have kf : (w1.setCell ⟨db, 1, none⟩ v).frozen? ⟨db, 1, none⟩ = w1.frozen? ⟨db, 1, none⟩ := World.frozen?_setCell _ _ _ _
  have lt0 := h.lt0
  have lt1 := h.lt1
  have lt2 := h.map.lt
  have hd4 : W4.heap[db]? = (w1.setCell ⟨db, 1, none⟩ v).heap[db]? := m3.block db (by omega) h.ne2
  have hl4 : W4.heap[lb]? = W2.heap[lb]? := ((m3.block lb (by omega) h.ne3).trans (m2.block lb (by omega) (Ne.symm h.ne1))).trans (g1 lb h.lt1 h.ne5)
  have hg4 : gg ≠ db ∧ gg ≠ lb ∧ gg ≠ mb := by
    rcases hat with e | e
    · exact ⟨fun x => h.ne4 (x ▸ e), fun x => h.ne5 (x ▸ e), fun x => h.ne6 (x ▸ e)⟩
    · omega
  have hgl : gg < w1.heap.size := (hown.lt gg hvb).2
  have hr4 : W4.heap[gg]? = w1.heap[gg]? := (m3.block gg (by omega) hg4.2.2).trans (m2.block gg hgl hg4.1)
  have hs4 := m3.size
  refine ⟨?_, (m1.trans (m2.mono (fun _ e => (e ▸ f0 : F _))) (fun _ e => .inl e)).trans (m3.mono (fun _ e => (e ▸ f2 : F _))) (fun _ e => .inl e)⟩
  exact { c0 := ((World.cell?_of_block (a := ⟨db, 0, none⟩) hd4).trans k0).trans ((World.cell?_of_block (a := ⟨db, 0, none⟩) hdb1).trans h.c0)
          c1 := (World.cell?_of_block (a := ⟨db, 1, none⟩) hd4).trans k1
          c2 := ((World.cell?_of_block (a := ⟨db, 2, none⟩) hd4).trans k2).trans ((World.cell?_of_block (a := ⟨db, 2, none⟩) hdb1).trans h.c2)
          fz := ((World.frozen?_of_block (a := ⟨db, 1, none⟩) hd4).trans kf).trans ((World.frozen?_of_block (a := ⟨db, 1, none⟩) hdb1).trans h.fz)
          secs := h.secs.kept hl4
          row := by
            have e1 : (writeS st i zs).cache.length = st.cache.length + 1 := by simp [writeS]
            have e2 : (writeS st i zs).cache.flatMap wrC = st.cache.flatMap wrC ++ wrC (i, zs) := by simp [writeS]
            rw [e1, e2]
            exact row_kept hown (fun k hk => by rw [hvb] at hk; injection hk with hk; rw [← hk]; exact hr4)
          map := by
            have e1 : (writeS st i zs).cache.length = st.cache.length + 1 := by simp [writeS]
            have e2 : mapOf (writeS st i zs).cache = (mapOf st.cache).put (keyL i) (secD zs) := mapOf_snoc st.cache (i, zs)
            rw [e1, e2]
            exact hmap
          wf := h.wf.write hi hz, n1 := h.n1, n2 := h.n2, lt0 := by omega, lt1 := by omega, ne1 := h.ne1, ne2 := h.ne2, ne3 := h.ne3
          ne4 := by rw [hvb]; exact fun e => hg4.1 (by injection e), ne5 := by rw [hvb]; exact fun e => hg4.2.1 (by injection e), ne6 := by rw [hvb]; exact fun e => hg4.2.2 (by injection e) }
set_option maxRecDepth 100000 in
set_option maxHeartbeats 2000000 in
theorem write_ok (F : Nat → Prop) (db n i : Nat) (st : St) (A : Option Addr) (c : Nat) (zs : List Int) (w : World) (h : DiskAt w F db n st) (hi : i < n) (hz : zs.length = 32) (hg : Good A c zs w) (hc : st.cache.length ≤ 999) :
    Calls Tryz.prog 19 #[.pointer (some ⟨db, 0, none⟩), .int .i64 i, .slice A 32 c] w (Does F db n (writeS st i zs) (.int .i64 0) w) := by
  obtain ⟨lb, mb, cv, h, f0, f1, f2, f3, f4⟩ := h
  have c0 := h.c0
  obtain ⟨ab, af, rfl, _, hcell⟩ := hg.1 (by omega)
  have hin := Lib.hid (show w.rangeAt ab af (secC zs) from fun j v hv => by
    have hj : j < zs.length := by
      rcases Nat.lt_or_ge j zs.length with h | h
      · exact h
      · rw [List.getElem?_eq_none (by rw [secC_len]; exact h)] at hv; cases hv
    rw [hcell j hj]
    simp [secC, hj] at hv
    simp [hj, hv])
  clear hcell hg
  have hgood := Lib.hid (show goodAt n i = true by unfold goodAt; simp; omega)
  have HY := Lib.hid ((secC_len zs).trans hz)
  have HZ := Lib.hid hz
  clear hz
  have har : ∀ w : World, (Instr.arrayAt 98 (.slice (some ⟨ab, af, none⟩) 32 c)).run Tryz.prog w = .ok (.pointer (some ⟨ab, af, none⟩)) w := fun w => by
    simp [Instr.arrayAt, run_underlying Tryz.underlying98]
  go_enter Tryz.func19, Tryz.ntmps19
  go_wp2_with fail
  refine (there_any db lb n i _ c0).mono ?_
  rintro e w' ⟨rfl, rfl⟩
  rw [hgood.out]
  go_wp2_with (first | (refine wpList_load_mid rfl 98 (.tmp 16) rfl ab af rfl (secC zs) _ hin.out Tryz.underlying98 rfl (by rw [HY.out]; exact size_sec) ?_) | (refine wpList_allocT rfl 98 rfl _ 32 (by simp) info_sec2 ?_; intro W1 e1 b1 t1; have T1 := Lib.hid t1; have E1 := Lib.hid e1; clear t1 e1) | (refine wpList_storeT rfl 98 _ (.tmp 17) rfl _ _ (secC zs) rfl rfl (by rw [HY.out]; exact T1.out) (by rw [HY.out]; exact size_sec) (secC_one _) ?_; intro W2 e2))
  have hs2 := size_store e2
  have hs1 := E1.out
  have hW2 : Below w.heap.size w W2 := b1.trans (below_store e2 (by omega) (Nat.le_refl _))
  have hd2 := h.below hW2
  have hr2 := range_store e2 (by rw [HY.out]; exact T1.out)
  have k1 : W2.cell? ⟨db, 1, none⟩ = some cv := hd2.c1
  have kf : W2.frozen? ⟨db, 1, none⟩ = false := hd2.fz
  have hlt0 : db < W2.heap.size := hd2.lt0
  have hrow := Lib.hid hd2.row
  have hHW : W2.heap.size = w.heap.size + 1 := by omega
  have hnb : w.heap.size < W2.heap.size := by omega
  have hdn : db < w.heap.size := h.lt0
  clear hs1 hs2 e2
  have HD2 := Lib.hid hd2
  have HB2 := Lib.hid hW2
  have HHW := Lib.hid hHW
  clear hd2 hW2 hHW T1 E1 b1
  generalize hnbe : w.heap.size = nb at *
  have HNB := Lib.hid hnbe
  clear hnbe
  have hu := Tryz.underlying98
  have hi61 : (Tryz.prog.info? 98).map (·.size) = some (secC zs).length := by rw [HY.out]; exact size_sec
  obtain ⟨i0, hi0, hz0, hz1, hz2⟩ := info_parts info_wr
  have hcl := HY.out
  have hf1 := fold_wr i zs HZ.out
  have hC := wrC_len (i, zs) HZ.out
  have hone := Lib.hid (wrC_one (i, zs))
  generalize hCe : wrC (i, zs) = C at *
  have HCE := Lib.hid hCe
  clear hCe
  have hf2 := fold_all C hC
  have k1' : ∀ o : Obj, (W2.alloc o).cell? ⟨db, 1, none⟩ = some cv := fun o => (World.cell?_alloc_lt W2 o _ hlt0).trans k1
  have hne4 : some db ≠ cv.ownBlock := Ne.symm h.ne4
  have hne7 : some nb ≠ cv.ownBlock := fun e => by have := f4 nb (f3 nb e.symm); omega
  have hne8 : nb ≠ db := by omega
  have hlenC := hc
  -- by hand
  refine wp_region_noPanic ?_
  refine wp_region_held_drew (S := fun w' => w'.rangeAt nb 0 (secC zs)) (by kernel_rfl) hr2 (fun hHeld => ?_)
  refine wpAnyH_take (i := 0) (oi := ⟨some 18, _, _, _, _, _⟩) (v := ?v1) rfl (by kernel_rfl) (by kernel_rfl) (by kernel_rfl) (fun _ _ _ h => h) (Or.inl ⟨by rfl, ?y1⟩) (by assumption) ?r1
  case y1 =>
    intro w hSw
    go_simp
    try with_reducible rfl
  simp only [Act.put, List.setIfInBounds_toArray, List.set_cons_zero, List.set_cons_succ]
  refine wpAnyH_take (i := 1) (oi := ⟨some 19, _, _, _, _, _⟩) (v := ?v2) rfl (by kernel_rfl) (by kernel_rfl) (by kernel_rfl) (fun _ _ _ h => h) (Or.inl ⟨by rfl, ?y2⟩) (by assumption) ?r2
  case y2 =>
    intro w hSw
    go_simp
    try with_reducible rfl
  simp only [Act.put, List.setIfInBounds_toArray, List.set_cons_zero, List.set_cons_succ]
  refine wpAnyH_take (i := 2) (oi := ⟨some 20, _, _, _, _, _⟩) (v := ?v3) rfl (by kernel_rfl) (by kernel_rfl) (by kernel_rfl) (fun _ _ _ h => h) (Or.inl ⟨by rfl, ?y3⟩) (by assumption) ?r3
  case y3 =>
    intro w hSw
    go_simp
    try with_reducible rfl
  simp only [Act.put, List.setIfInBounds_toArray, List.set_cons_zero, List.set_cons_succ]
  refine wpAnyH_take (i := 3) (oi := ⟨some 21, _, _, _, _, _⟩) (v := ?v4) rfl (by kernel_rfl) (by kernel_rfl) (by kernel_rfl) (fun _ _ _ h => h) (Or.inl ⟨by rfl, ?y4⟩) (by assumption) ?r4
  case y4 =>
    intro w hSw
    go_simp
    try with_reducible rfl
  simp only [Act.put, List.setIfInBounds_toArray, List.set_cons_zero, List.set_cons_succ]
  refine wpAnyH_take (i := 5) (oi := ⟨some 23, _, _, _, _, _⟩) (v := ?v5) rfl (by kernel_rfl) (by kernel_rfl) (by kernel_rfl) (fun _ _ _ h => h) (Or.inl ⟨by rfl, ?y5⟩) (by assumption) ?r5
  case y5 =>
    intro w hSw
    go_simp
    try with_reducible rfl
  simp only [Act.put, List.setIfInBounds_toArray, List.set_cons_zero, List.set_cons_succ]
  refine wpAnyH_take (i := 6) (oi := ⟨some 24, _, _, _, _, _⟩) (v := _) rfl (by kernel_rfl) (by kernel_rfl) (by kernel_rfl) (fun _ _ _ h => h) (yieldsIf_load_mid (by rfl) _ _ rfl _ _ rfl _ _ (fun w hSw => hSw) hu rfl hi61) (by assumption) ?_
  simp only [Act.put, List.setIfInBounds_toArray, List.set_cons_zero, List.set_cons_succ]
  refine wpAnyH_take (i := 7) (oi := ⟨some 25, _, _, _, _, _⟩) (v := ?v6) rfl (by kernel_rfl) (by kernel_rfl) (by kernel_rfl) (fun _ _ _ h => h) (Or.inl ⟨by rfl, ?y6⟩) (by assumption) ?r6
  case y6 =>
    intro w hSw
    go_simp
    try with_reducible rfl
  simp only [Act.put, List.setIfInBounds_toArray, List.set_cons_zero, List.set_cons_succ]
  refine wpAnyH_ready (rs := [4, 8]) (by kernel_rfl) (by simp) ?_
  refine AllReadyH.cons (o := ⟨some 22, _, _, _, _, _⟩) rfl (fun K hK => ?_) (AllReadyH.cons (o := ⟨some 26, _, _, _, _, _⟩) rfl (fun K hK => ?_) AllReadyH.nil)
  · go_simp
    refine hK.out _ _ ?_ (fun hHeld => ?_)
    · exact hHeld
    clear hK K
    try simp only [Act.put, List.setIfInBounds_toArray, List.set_cons_zero, List.set_cons_succ]
    refine wpAnyH_ready (rs := [8]) (by kernel_rfl) (by simp) ?_
    refine AllReadyH.cons (o := ⟨some 26, _, _, _, _, _⟩) rfl (fun K hK => ?_) AllReadyH.nil
    go_simp
    refine hK.out _ _ ?_ (fun hHeld => ?_)
    · exact World.rangeAt_alloc hr2 _
    clear hK K
    try simp only [Act.put, List.setIfInBounds_toArray, List.set_cons_zero, List.set_cons_succ]
    refine wpAnyH_ready (rs := [9]) (by kernel_rfl) (by simp) ?_
    refine AllReadyH.cons (o := ⟨some 27, _, _, _, _, _⟩) rfl (fun K hK => ?_) AllReadyH.nil
    refine step_append_lies _ (by rfl) _ _ _ (by rfl) 0 100 i0 _ 33 40 Tryz.underlying66 hi0 hz0 hz1 hz2 (by simp [Value.cells]) (by omega) cv st.cache.length (st.cache.flatMap wrC) (by rfl) ((hrow.out.alloc _).drew) ⟨W2.heap.size, 0, none⟩ 1 1 C (by rfl) (by simp [hC]) (World.news_of_block (cs := C.toArray) (t := 100) (fr := (0, 0)) (heap_alloc_new W2 _)) hone.out (by omega) (by simp only [maxLen]; omega) (by omega) (by omega) (W2.heap.size + 1) (by simp) ?_
    intro gg cap w1 hown1 hgrow hat hlt
    have k1b : w1.cell? ⟨db, 1, none⟩ = some cv := (World.cell?_of_block (a := ⟨db, 1, none⟩) (hgrow.block db (by simp; omega) hne4)).trans (k1' _)
    have kfb : w1.frozen? ⟨db, 1, none⟩ = false := ((World.frozen?_of_block (a := ⟨db, 1, none⟩) (hgrow.block db (by simp; omega) hne4)).trans (World.frozen?_alloc_past _ db 1 hlt0)).trans kf
    refine hK.out _ _ ?_ (fun hHeld => ?_)
    · exact rangeAt_of_block' (hgrow.block nb (by simp; omega) hne7) (World.rangeAt_alloc hr2 _)
    clear hK K
    try simp only [Act.put, List.setIfInBounds_toArray, List.set_cons_zero, List.set_cons_succ]
    refine wpAnyH_take (i := 10) (oi := ⟨some 28, _, _, _, _, _⟩) (v := ?v9) rfl (by kernel_rfl) (by kernel_rfl) (by kernel_rfl) (fun _ _ _ h => h) (Or.inl ⟨by rfl, ?y9⟩) (by assumption) ?r9
    case y9 =>
      intro w hSw
      go_simp
      try with_reducible rfl
    simp only [Act.put, List.setIfInBounds_toArray, List.set_cons_zero, List.set_cons_succ]
    refine wpAnyH_take (i := 11) (oi := ⟨some 29, _, _, _, _, _⟩) (v := ?v10) rfl (by kernel_rfl) (by kernel_rfl) (by kernel_rfl) (fun _ _ _ h => h) (Or.inl ⟨by rfl, ?y10⟩) (by assumption) ?r10
    case y10 =>
      intro w hSw
      go_simp
      try with_reducible rfl
    simp only [Act.put, List.setIfInBounds_toArray, List.set_cons_zero, List.set_cons_succ]
    refine wpAnyH_ready (rs := [12]) (by kernel_rfl) (by simp) ?_
    refine AllReadyH.cons (o := ⟨none, _, _, _, _, _⟩) rfl (fun K hK => ?_) AllReadyH.nil
    go_simp
    refine hK.out _ _ ?_ (fun hHeld => ?_)
    · exact range_setCell_apart hHeld (by simpa using hne8)
    clear hK K
    try simp only [Act.put, List.setIfInBounds_toArray, List.set_cons_zero, List.set_cons_succ]
    refine wpAnyH_done (by kernel_rfl) ?_ _
    refine NoPanic.normal ?_
    clear hf1 hf2 hcl
    have hnn := h.n2
    have k2b : (w1.setCell ⟨db, 1, none⟩ (Value.slice (some ⟨gg, 0, none⟩) (st.cache.length + 1) cap)).cell? ⟨db, 2, none⟩ = some (.map (some mb)) :=
      (World.cell?_setCell_other _ _ _ _ (by simp)).trans ((World.cell?_of_block (a := ⟨db, 2, none⟩) (hgrow.block db (by simp; omega) hne4)).trans ((World.cell?_alloc_lt W2 _ ⟨db, 2, none⟩ hlt0).trans HD2.out.c2))
    have hmb : (w1.setCell ⟨db, 1, none⟩ (Value.slice (some ⟨gg, 0, none⟩) (st.cache.length + 1) cap)).ownsMap Tryz.prog 3 secR mb st.cache.length (mapOf st.cache) :=
      World.ownsMap.setCell (map_kept HD2.out.map ((hgrow.block mb (by have := HD2.out.map.lt; simp; omega) (Ne.symm HD2.out.ne6)).trans (Below.heap_alloc W2 _ mb HD2.out.map.lt))) (Ne.symm h.ne2) _
    have hrn : (w1.setCell ⟨db, 1, none⟩ (Value.slice (some ⟨gg, 0, none⟩) (st.cache.length + 1) cap)).rangeAt nb 0 (secC zs) := by assumption
    have hlt3 : db < (w1.setCell ⟨db, 1, none⟩ (Value.slice (some ⟨gg, 0, none⟩) (st.cache.length + 1) cap)).heap.size := by have := hgrow.size; simp at this ⊢; omega
    have hnb3 : nb < (w1.setCell ⟨db, 1, none⟩ (Value.slice (some ⟨gg, 0, none⟩) (st.cache.length + 1) cap)).heap.size := by have := hgrow.size; simp at this ⊢; omega
    have hnm : nb ≠ mb := fun e => by have := f4 mb f2; omega
    have HG := Lib.hid (fun (W4 : World) hmp hmv => HD2.out.written (F := F) (i := i) (zs := zs) (W4 := W4) hi HZ.out hgrow (HCE.out ▸ hown1) hat hmp hmv f0 f2 f3)
    generalize (w1.setCell ⟨db, 1, none⟩ (Value.slice (some ⟨gg, 0, none⟩) (st.cache.length + 1) cap)) = W3 at *
    go_wp2
    refine wp_region_noPanic ?_
    refine wp_region_held_drew (S := fun w' => w'.cell? ⟨db, 2, none⟩ = some (.map (some mb)) ∧ w'.rangeAt nb 0 (secC zs)) (by kernel_rfl) ⟨k2b, hrn⟩ (fun hHeld => ?_)
    refine wpAnyH_take (i := 0) (oi := ⟨some 30, _, _, _, _, _⟩) (v := ?v17) rfl (by kernel_rfl) (by kernel_rfl) (by kernel_rfl) (fun _ _ _ h => h) (Or.inl ⟨by rfl, ?y17⟩) (by assumption) ?r17
    case y17 =>
      intro w hSw; obtain ⟨hSw, hSw2⟩ := hSw
      go_simp
      try with_reducible rfl
    simp only [Act.put, List.setIfInBounds_toArray, List.set_cons_zero, List.set_cons_succ]
    refine wpAnyH_take (i := 1) (oi := ⟨some 31, _, _, _, _, _⟩) (v := ?v18) rfl (by kernel_rfl) (by kernel_rfl) (by kernel_rfl) (fun _ _ _ h => h) (Or.inl ⟨by rfl, ?y18⟩) (by assumption) ?r18
    case y18 =>
      intro w hSw; obtain ⟨hSw, hSw2⟩ := hSw
      go_simp
      try with_reducible rfl
    simp only [Act.put, List.setIfInBounds_toArray, List.set_cons_zero, List.set_cons_succ]
    refine wpAnyH_take (i := 2) (oi := ⟨some 32, _, _, _, _, _⟩) (v := ?v19) rfl (by kernel_rfl) (by kernel_rfl) (by kernel_rfl) (fun _ _ _ h => h) (Or.inl ⟨by rfl, ?y19⟩) (by assumption) ?r19
    case y19 =>
      intro w hSw; obtain ⟨hSw, hSw2⟩ := hSw
      go_simp
      try with_reducible rfl
    simp only [Act.put, List.setIfInBounds_toArray, List.set_cons_zero, List.set_cons_succ]
    refine wpAnyH_take (i := 3) (oi := ⟨some 33, _, _, _, _, _⟩) (v := ?v20) rfl (by kernel_rfl) (by kernel_rfl) (by kernel_rfl) (fun _ _ _ h => h) (Or.inl ⟨by rfl, ?y20⟩) (by assumption) ?r20
    case y20 =>
      intro w hSw; obtain ⟨hSw, hSw2⟩ := hSw
      go_simp
      try with_reducible rfl
    simp only [Act.put, List.setIfInBounds_toArray, List.set_cons_zero, List.set_cons_succ]
    refine wpAnyH_take (i := 4) (oi := ⟨some 34, _, _, _, _, _⟩) (v := ?v21) rfl (by kernel_rfl) (by kernel_rfl) (by kernel_rfl) (fun _ _ _ h => h) (Or.inl ⟨by rfl, ?y21⟩) (by assumption) ?r21
    case y21 =>
      intro w hSw; obtain ⟨hSw, hSw2⟩ := hSw
      go_simp
      try with_reducible rfl
    simp only [Act.put, List.setIfInBounds_toArray, List.set_cons_zero, List.set_cons_succ]
    refine wpAnyH_take (i := 5) (oi := ⟨some 35, _, _, _, _, _⟩) (v := _) rfl (by kernel_rfl) (by kernel_rfl) (by kernel_rfl) (fun _ _ _ h => h) (yieldsIf_load_mid (by rfl) _ _ rfl _ _ rfl _ _ (fun w hSw => hSw.2) hu rfl hi61) (by assumption) ?_
    simp only [Act.put, List.setIfInBounds_toArray, List.set_cons_zero, List.set_cons_succ]
    refine wpAnyH_ready (rs := [6]) (by kernel_rfl) (by simp) ?_
    refine AllReadyH.cons (o := ⟨none, _, _, _, _, _⟩) rfl (fun K hK => ?_) AllReadyH.nil
    refine step_mapUpdate (by rfl) _ _ _ _ (by rfl) 3 98 intK Tryz.underlying65 secR mb st.cache.length (mapOf st.cache) (by rfl) hmb (by simp only [maxLen]; omega) _ _ (keyL i) (by rfl) (by rfl) (keyI i (by omega)) (secD zs) [] (secR_mk zs) ?_
    intro W4 hown4 hgrow4
    refine hK.out _ _ ?_ (fun hHeld => ?_)
    · exact ⟨(World.cell?_of_block (a := ⟨db, 2, none⟩) (hgrow4.block db hlt3 (fun e => h.ne2 (by injection e)))).trans k2b, rangeAt_of_block' (hgrow4.block nb hnb3 (fun e => hnm (by injection e))) hrn⟩
    clear hK K
    refine wpAnyH_done (by kernel_rfl) ?_ _
    refine NoPanic.normal ?_
    have hfin := HG.out W4 ⟨hgrow4.os, hgrow4.tape, hgrow4.output, hgrow4.size, hgrow4.block⟩ hown4
    clear HG
    go_wp2
    go_ret
    refine does_mk hfin.1 ((moves_of_below (F := F) (by rw [HNB.out]; exact HB2.out)).trans hfin.2 (fun _ e => .inl e)) f0 f1 f2 ?_ (by rw [HNB.out]; exact f4)
    intro k hk
    have hk' : gg = k := by simpa [Value.ownBlock] using hk
    subst hk'
    rw [HNB.out]
    exact hat.elim (fun e => .inl (f3 _ e)) (fun e => .inr (by omega))
  · go_simp
    refine hK.out _ _ ?_ (fun hHeld => ?_)
    · exact World.rangeAt_alloc hr2 _
    clear hK K
    try simp only [Act.put, List.setIfInBounds_toArray, List.set_cons_zero, List.set_cons_succ]
    refine wpAnyH_ready (rs := [4]) (by kernel_rfl) (by simp) ?_
    refine AllReadyH.cons (o := ⟨some 22, _, _, _, _, _⟩) rfl (fun K hK => ?_) AllReadyH.nil
    go_simp
    refine hK.out _ _ ?_ (fun hHeld => ?_)
    · exact hHeld
    clear hK K
    try simp only [Act.put, List.setIfInBounds_toArray, List.set_cons_zero, List.set_cons_succ]
    refine wpAnyH_ready (rs := [9]) (by kernel_rfl) (by simp) ?_
    refine AllReadyH.cons (o := ⟨some 27, _, _, _, _, _⟩) rfl (fun K hK => ?_) AllReadyH.nil
    refine step_append_lies _ (by rfl) _ _ _ (by rfl) 0 100 i0 _ 33 40 Tryz.underlying66 hi0 hz0 hz1 hz2 (by simp [Value.cells]) (by omega) cv st.cache.length (st.cache.flatMap wrC) (by rfl) ((hrow.out.alloc _).drew) ⟨W2.heap.size, 0, none⟩ 1 1 C (by rfl) (by simp [hC]) (World.news_of_block (cs := C.toArray) (t := 100) (fr := (0, 0)) (heap_alloc_new W2 _)) hone.out (by omega) (by simp only [maxLen]; omega) (by omega) (by omega) (W2.heap.size + 1) (by simp) ?_
    intro gg cap w1 hown1 hgrow hat hlt
    have k1b : w1.cell? ⟨db, 1, none⟩ = some cv := (World.cell?_of_block (a := ⟨db, 1, none⟩) (hgrow.block db (by simp; omega) hne4)).trans (k1' _)
    have kfb : w1.frozen? ⟨db, 1, none⟩ = false := ((World.frozen?_of_block (a := ⟨db, 1, none⟩) (hgrow.block db (by simp; omega) hne4)).trans (World.frozen?_alloc_past _ db 1 hlt0)).trans kf
    refine hK.out _ _ ?_ (fun hHeld => ?_)
    · exact rangeAt_of_block' (hgrow.block nb (by simp; omega) hne7) (World.rangeAt_alloc hr2 _)
    clear hK K
    try simp only [Act.put, List.setIfInBounds_toArray, List.set_cons_zero, List.set_cons_succ]
    refine wpAnyH_take (i := 10) (oi := ⟨some 28, _, _, _, _, _⟩) (v := ?v14) rfl (by kernel_rfl) (by kernel_rfl) (by kernel_rfl) (fun _ _ _ h => h) (Or.inl ⟨by rfl, ?y14⟩) (by assumption) ?r14
    case y14 =>
      intro w hSw
      go_simp
      try with_reducible rfl
    simp only [Act.put, List.setIfInBounds_toArray, List.set_cons_zero, List.set_cons_succ]
    refine wpAnyH_take (i := 11) (oi := ⟨some 29, _, _, _, _, _⟩) (v := ?v15) rfl (by kernel_rfl) (by kernel_rfl) (by kernel_rfl) (fun _ _ _ h => h) (Or.inl ⟨by rfl, ?y15⟩) (by assumption) ?r15
    case y15 =>
      intro w hSw
      go_simp
      try with_reducible rfl
    simp only [Act.put, List.setIfInBounds_toArray, List.set_cons_zero, List.set_cons_succ]
    refine wpAnyH_ready (rs := [12]) (by kernel_rfl) (by simp) ?_
    refine AllReadyH.cons (o := ⟨none, _, _, _, _, _⟩) rfl (fun K hK => ?_) AllReadyH.nil
    go_simp
    refine hK.out _ _ ?_ (fun hHeld => ?_)
    · exact range_setCell_apart hHeld (by simpa using hne8)
    clear hK K
    try simp only [Act.put, List.setIfInBounds_toArray, List.set_cons_zero, List.set_cons_succ]
    refine wpAnyH_done (by kernel_rfl) ?_ _
    refine NoPanic.normal ?_
    clear hf1 hf2 hcl
    have hnn := h.n2
    have k2b : (w1.setCell ⟨db, 1, none⟩ (Value.slice (some ⟨gg, 0, none⟩) (st.cache.length + 1) cap)).cell? ⟨db, 2, none⟩ = some (.map (some mb)) :=
      (World.cell?_setCell_other _ _ _ _ (by simp)).trans ((World.cell?_of_block (a := ⟨db, 2, none⟩) (hgrow.block db (by simp; omega) hne4)).trans ((World.cell?_alloc_lt W2 _ ⟨db, 2, none⟩ hlt0).trans HD2.out.c2))
    have hmb : (w1.setCell ⟨db, 1, none⟩ (Value.slice (some ⟨gg, 0, none⟩) (st.cache.length + 1) cap)).ownsMap Tryz.prog 3 secR mb st.cache.length (mapOf st.cache) :=
      World.ownsMap.setCell (map_kept HD2.out.map ((hgrow.block mb (by have := HD2.out.map.lt; simp; omega) (Ne.symm HD2.out.ne6)).trans (Below.heap_alloc W2 _ mb HD2.out.map.lt))) (Ne.symm h.ne2) _
    have hrn : (w1.setCell ⟨db, 1, none⟩ (Value.slice (some ⟨gg, 0, none⟩) (st.cache.length + 1) cap)).rangeAt nb 0 (secC zs) := by assumption
    have hlt3 : db < (w1.setCell ⟨db, 1, none⟩ (Value.slice (some ⟨gg, 0, none⟩) (st.cache.length + 1) cap)).heap.size := by have := hgrow.size; simp at this ⊢; omega
    have hnb3 : nb < (w1.setCell ⟨db, 1, none⟩ (Value.slice (some ⟨gg, 0, none⟩) (st.cache.length + 1) cap)).heap.size := by have := hgrow.size; simp at this ⊢; omega
    have hnm : nb ≠ mb := fun e => by have := f4 mb f2; omega
    have HG := Lib.hid (fun (W4 : World) hmp hmv => HD2.out.written (F := F) (i := i) (zs := zs) (W4 := W4) hi HZ.out hgrow (HCE.out ▸ hown1) hat hmp hmv f0 f2 f3)
    generalize (w1.setCell ⟨db, 1, none⟩ (Value.slice (some ⟨gg, 0, none⟩) (st.cache.length + 1) cap)) = W3 at *
    go_wp2
    refine wp_region_noPanic ?_
    refine wp_region_held_drew (S := fun w' => w'.cell? ⟨db, 2, none⟩ = some (.map (some mb)) ∧ w'.rangeAt nb 0 (secC zs)) (by kernel_rfl) ⟨k2b, hrn⟩ (fun hHeld => ?_)
    refine wpAnyH_take (i := 0) (oi := ⟨some 30, _, _, _, _, _⟩) (v := ?v517) rfl (by kernel_rfl) (by kernel_rfl) (by kernel_rfl) (fun _ _ _ h => h) (Or.inl ⟨by rfl, ?y517⟩) (by assumption) ?r517
    case y517 =>
      intro w hSw; obtain ⟨hSw, hSw2⟩ := hSw
      go_simp
      try with_reducible rfl
    simp only [Act.put, List.setIfInBounds_toArray, List.set_cons_zero, List.set_cons_succ]
    refine wpAnyH_take (i := 1) (oi := ⟨some 31, _, _, _, _, _⟩) (v := ?v518) rfl (by kernel_rfl) (by kernel_rfl) (by kernel_rfl) (fun _ _ _ h => h) (Or.inl ⟨by rfl, ?y518⟩) (by assumption) ?r518
    case y518 =>
      intro w hSw; obtain ⟨hSw, hSw2⟩ := hSw
      go_simp
      try with_reducible rfl
    simp only [Act.put, List.setIfInBounds_toArray, List.set_cons_zero, List.set_cons_succ]
    refine wpAnyH_take (i := 2) (oi := ⟨some 32, _, _, _, _, _⟩) (v := ?v519) rfl (by kernel_rfl) (by kernel_rfl) (by kernel_rfl) (fun _ _ _ h => h) (Or.inl ⟨by rfl, ?y519⟩) (by assumption) ?r519
    case y519 =>
      intro w hSw; obtain ⟨hSw, hSw2⟩ := hSw
      go_simp
      try with_reducible rfl
    simp only [Act.put, List.setIfInBounds_toArray, List.set_cons_zero, List.set_cons_succ]
    refine wpAnyH_take (i := 3) (oi := ⟨some 33, _, _, _, _, _⟩) (v := ?v520) rfl (by kernel_rfl) (by kernel_rfl) (by kernel_rfl) (fun _ _ _ h => h) (Or.inl ⟨by rfl, ?y520⟩) (by assumption) ?r520
    case y520 =>
      intro w hSw; obtain ⟨hSw, hSw2⟩ := hSw
      go_simp
      try with_reducible rfl
    simp only [Act.put, List.setIfInBounds_toArray, List.set_cons_zero, List.set_cons_succ]
    refine wpAnyH_take (i := 4) (oi := ⟨some 34, _, _, _, _, _⟩) (v := ?v521) rfl (by kernel_rfl) (by kernel_rfl) (by kernel_rfl) (fun _ _ _ h => h) (Or.inl ⟨by rfl, ?y521⟩) (by assumption) ?r521
    case y521 =>
      intro w hSw; obtain ⟨hSw, hSw2⟩ := hSw
      go_simp
      try with_reducible rfl
    simp only [Act.put, List.setIfInBounds_toArray, List.set_cons_zero, List.set_cons_succ]
    refine wpAnyH_take (i := 5) (oi := ⟨some 35, _, _, _, _, _⟩) (v := _) rfl (by kernel_rfl) (by kernel_rfl) (by kernel_rfl) (fun _ _ _ h => h) (yieldsIf_load_mid (by rfl) _ _ rfl _ _ rfl _ _ (fun w hSw => hSw.2) hu rfl hi61) (by assumption) ?_
    simp only [Act.put, List.setIfInBounds_toArray, List.set_cons_zero, List.set_cons_succ]
    refine wpAnyH_ready (rs := [6]) (by kernel_rfl) (by simp) ?_
    refine AllReadyH.cons (o := ⟨none, _, _, _, _, _⟩) rfl (fun K hK => ?_) AllReadyH.nil
    refine step_mapUpdate (by rfl) _ _ _ _ (by rfl) 3 98 intK Tryz.underlying65 secR mb st.cache.length (mapOf st.cache) (by rfl) hmb (by simp only [maxLen]; omega) _ _ (keyL i) (by rfl) (by rfl) (keyI i (by omega)) (secD zs) [] (secR_mk zs) ?_
    intro W4 hown4 hgrow4
    refine hK.out _ _ ?_ (fun hHeld => ?_)
    · exact ⟨(World.cell?_of_block (a := ⟨db, 2, none⟩) (hgrow4.block db hlt3 (fun e => h.ne2 (by injection e)))).trans k2b, rangeAt_of_block' (hgrow4.block nb hnb3 (fun e => hnm (by injection e))) hrn⟩
    clear hK K
    refine wpAnyH_done (by kernel_rfl) ?_ _
    refine NoPanic.normal ?_
    have hfin := HG.out W4 ⟨hgrow4.os, hgrow4.tape, hgrow4.output, hgrow4.size, hgrow4.block⟩ hown4
    clear HG
    go_wp2
    go_ret
    refine does_mk hfin.1 ((moves_of_below (F := F) (by rw [HNB.out]; exact HB2.out)).trans hfin.2 (fun _ e => .inl e)) f0 f1 f2 ?_ (by rw [HNB.out]; exact f4)
    intro k hk
    have hk' : gg = k := by simpa [Value.ownBlock] using hk
    subst hk'
    rw [HNB.out]
    exact hat.elim (fun e => .inl (f3 _ e)) (fun e => .inr (by omega))

theorem DiskAt.same {w : World} {F : Nat → Prop} {db n : Nat} {st : St} (h : DiskAt w F db n st) : DiskAt w (grow F w w) db n st := by
  obtain ⟨lb, mb, cv, h, f0, f1, f2, f3, f4⟩ := h
  exact ⟨lb, mb, cv, h, .inl f0, .inl f1, .inl f2, fun k hk => .inl (f3 k hk), fun k hk => hk.elim (f4 k) (fun e => e.2)⟩
def writeE (n : Nat) (i : Int) (l : Nat) : Int := if goodAt n i then (if l = 32 then 0 else 10) else 11
def writeT (n : Nat) (st : St) (i : Int) (zs : List Int) : St := if goodAt n i then (if zs.length = 32 then writeS st i.toNat zs else st) else st
set_option maxRecDepth 100000 in
set_option maxHeartbeats 400000 in
theorem write_range (F : Nat → Prop) (db n : Nat) (i : Int) (st : St) (A : Option Addr) (l c : Nat) (w : World) (h : DiskAt w F db n st) (hg : goodAt n i = false) :
    Calls Tryz.prog 19 #[.pointer (some ⟨db, 0, none⟩), .int .i64 i, .slice A l c] w (Does F db n st (.int .i64 11) w) := by
  have hs := Lib.hid h.same
  obtain ⟨lb, mb, cv, h, f0, f1, f2, f3, f4⟩ := h
  have c0 := h.c0
  have HG := Lib.hid hg
  clear hg
  go_enter Tryz.func19, Tryz.ntmps19
  go_wp2_with fail
  refine (there_any db lb n i _ c0).mono ?_
  rintro e w' ⟨rfl, rfl⟩
  rw [HG.out]
  go_wp2
  go_ret
  exact ⟨rfl, hs.out, Moves.refl _ _⟩
set_option maxRecDepth 100000 in
set_option maxHeartbeats 400000 in
theorem write_form (F : Nat → Prop) (db n : Nat) (i : Int) (st : St) (A : Option Addr) (l c : Nat) (w : World) (h : DiskAt w F db n st) (hg : goodAt n i = true) (hl : l ≠ 32) :
    Calls Tryz.prog 19 #[.pointer (some ⟨db, 0, none⟩), .int .i64 i, .slice A l c] w (Does F db n st (.int .i64 10) w) := by
  have hs := Lib.hid h.same
  obtain ⟨lb, mb, cv, h, f0, f1, f2, f3, f4⟩ := h
  have c0 := h.c0
  have HG := Lib.hid hg
  have hne : ((l : Int) != 32) = true := by simp; omega
  clear hg
  go_enter Tryz.func19, Tryz.ntmps19
  go_wp2_with fail
  refine (there_any db lb n i _ c0).mono ?_
  rintro e w' ⟨rfl, rfl⟩
  rw [HG.out]
  go_wp2
  go_ret
  exact ⟨rfl, hs.out, Moves.refl _ _⟩
theorem write_any (F : Nat → Prop) (db n : Nat) (i : Int) (st st' : St) (A : Option Addr) (l c : Nat) (zs : List Int) (q : Int) (w : World) (h : DiskAt w F db n st) (hl : zs.length = l) (hg : Good A c zs w) (hc : st.cache.length ≤ 999) (hq : writeE n i l = q) (hst : writeT n st i zs = st') :
    Calls Tryz.prog 19 #[.pointer (some ⟨db, 0, none⟩), .int .i64 i, .slice A l c] w (Does F db n st' (.int .i64 q) w) := by
  subst hq hst
  unfold writeE writeT
  cases hgo : goodAt n i with
  | false => exact write_range F db n i st A l c w h hgo
  | true =>
    by_cases h32 : l = 32
    · subst h32
      simp only [hl, if_true]
      have hi : 0 ≤ i ∧ i < n := by simpa [goodAt] using hgo
      have := write_ok F db n i.toNat st A c zs w h (by omega) hl hg hc
      rwa [Int.toNat_of_nonneg hi.1] at this
    · simp only [hl, h32, if_true, if_false]
      exact write_form F db n i st A l c w h hgo h32
theorem writeT_len (n : Nat) (st : St) (i : Int) (zs : List Int) : (writeT n st i zs).cache.length ≤ st.cache.length + 1 := by
  unfold writeT; split <;> (try split) <;> simp [writeS]
end Go.Proofs.YtdmkkfpbgpijjaaGreat
namespace Go.Proofs.YtdmkkfpbgpijjaaGreat
open Go.RowKit Go.Deep Go.Maps
attribute [local go_sem ↓] Go.wp_at_zero Go.wp_at_succ

theorem read_at (F : Nat → Prop) (db n i : Nat) (st : St) (zs : List Int) (w : World) (h : DiskAt w F db n st) (hi : i < n) (hz : nowAt st i = zs) :
    Calls Tryz.prog 56 #[.pointer (some ⟨db, 0, none⟩), .int .i64 i] w (ReadSays zs w) := by
  obtain ⟨lb, mb, cv, h, _⟩ := h
  exact read_ok db lb mb cv n i st zs hz w h hi
theorem image_at (F : Nat → Prop) (db n : Nat) (st : St) (zs : List Int) (w : World) (h : DiskAt w F db n st) (hn : n ≤ 300) (hz : st.safe.flatten = zs) :
    Calls Tryz.prog 26 #[.pointer (some ⟨db, 0, none⟩)] w (GivesB zs w) := by
  obtain ⟨lb, mb, cv, h, _⟩ := h
  exact image_any db lb mb cv n st zs hz w h hn
theorem loose_at (F : Nat → Prop) (db n l : Nat) (st : St) (w : World) (h : DiskAt w F db n st) (hl : st.cache.length = l) :
    Calls Tryz.prog 28 #[.pointer (some ⟨db, 0, none⟩)] w fun e w' => e = .returned (.int .i64 l) ∧ w = w' := by
  obtain ⟨lb, mb, cv, h, _⟩ := h
  obtain ⟨A, c, rfl, _⟩ := row_shape h.row
  subst hl
  exact loose_any db _ c A w h.c1
theorem sectors_at (F : Nat → Prop) (db n : Nat) (st : St) (w : World) (h : DiskAt w F db n st) :
    Calls Tryz.prog 53 #[.pointer (some ⟨db, 0, none⟩)] w fun e w' => e = .returned (.int .i64 n) ∧ w = w' := by
  obtain ⟨lb, mb, cv, h, _⟩ := h
  exact sectors_any db lb n w h.c0

set_option maxRecDepth 100000 in
theorem info_bs : (Tryz.prog.info? 39).map (fun i => (i.zero, i.size, i.bytes)) = some (some (.slice none 0 0), 1, 24) := by kernel_rfl
theorem ownsD_lit (w : World) (B : Nat) (hB : B ≤ w.heap.size) : Owns B (w.alloc (.cells #[] 5)) (.slice (some ⟨w.heap.size, 0, none⟩) 0 0) [] := World.ownsRow_lit w #[] 0 hB (by simp) (by simp)
/-! ### what the statements take -/
structure CallD where
  what : Int
  at_ : Int
  tear : Int
  A : Option Addr
  c : Nat
  zs : List Int
def Good0 (B : Nat) (w : World) (A : Option Addr) (c : Nat) (zs : List Int) : Prop := Ints .u8 B w A zs ∧ zs.length ≤ c ∧ (A = none → c = 0)
theorem Good0.good {B : Nat} {w : World} {A : Option Addr} {c : Nat} {zs : List Int} (h : Good0 B w A c zs) (hB : B ≤ w.heap.size) : Good A c zs w := ⟨h.1.more hB, h.2⟩
theorem Good0.below {B : Nat} {w w' : World} {A : Option Addr} {c : Nat} {zs : List Int} (h : Good0 B w A c zs) (hb : Below B w w') : Good0 B w' A c zs := ⟨h.1.below hb (Nat.le_refl _), h.2⟩
def CallAt (B : Nat) (w : World) (b f : Nat) (x : CallD) : Prop :=
  w.cell? ⟨b, f, none⟩ = some (.int .i64 x.what) ∧ w.cell? ⟨b, f + 1, none⟩ = some (.int .i64 x.at_) ∧ w.cell? ⟨b, f + 2, none⟩ = some (.int .i64 x.tear) ∧ w.cell? ⟨b, f + 3, none⟩ = some (.slice x.A x.zs.length x.c) ∧ Good0 B w x.A x.c x.zs
/-- A list of calls that came in. -/
def CallsAt (B : Nat) (w : World) (A : Option Addr) (cs : List CallD) : Prop := 0 < cs.length → ∃ b off, A = some ⟨b, off, none⟩ ∧ b < B ∧ ∀ j x, cs[j]? = some x → CallAt B w b (off + j * 4) x
theorem CallAt.below {B : Nat} {w w' : World} {b f : Nat} {x : CallD} (h : CallAt B w b f x) (hb : Below B w w') (hB : b < B) : CallAt B w' b f x := by
  have hc : ∀ o, w'.cell? ⟨b, o, none⟩ = w.cell? ⟨b, o, none⟩ := fun o => hb.cell (p := ⟨b, o, none⟩) hB
  obtain ⟨h1, h2, h3, h4, h5⟩ := h
  exact ⟨(hc _).trans h1, (hc _).trans h2, (hc _).trans h3, (hc _).trans h4, h5.below hb⟩
theorem CallsAt.below {B : Nat} {w w' : World} {A : Option Addr} {cs : List CallD} (h : CallsAt B w A cs) (hb : Below B w w') : CallsAt B w' A cs := fun h0 => by
  obtain ⟨b, off, e, hB, hx⟩ := h h0
  exact ⟨b, off, e, hB, fun j x hj => (hx j x hj).below hb hB⟩
def greatB (cs : List CallD) : Bool := decide (80 < cs.length) || cs.any fun x => decide (100 < x.zs.length)
def doS (n : Nat) (st : St) (x : CallD) : St := if x.what = 0 then writeT n st x.at_ x.zs else if x.what = 1 then flushS st else if x.what = 2 then crashS st x.at_ x.tear else st
def callV (x : CallD) : Value := .agg #[.int .i64 x.what, .int .i64 x.at_, .int .i64 x.tear, .slice x.A x.zs.length x.c]
def runS (n : Nat) (cs : List CallD) : St := cs.foldl (doS n) (newS n)
def BeginSays (n : Nat) (st : St) (w : World) (e : Ending) (w' : World) : Prop := ∃ F db, e = .returned (.pointer (some ⟨db, 0, none⟩)) ∧ DiskAt w' F db n st ∧ (∀ k, F k → w.heap.size ≤ k) ∧ Below w.heap.size w w'
theorem made_one (x : Value) (n : Nat) : (madeCells #[x] n).toList = List.replicate n x := by
  apply List.ext_getElem?
  intro j
  by_cases hj : j < n <;> simp [madeCells, Nat.mod_one, hj]
def filled (z : Int) (j : Nat) : List Int := List.replicate j z ++ List.replicate (32 - j) 0
end Go.Proofs.YtdmkkfpbgpijjaaGreat
