/- Laws for walks over rows of many cells, in which the world behind a step is a letter: alloc, store, clear of a map. Nothing of one layer but the disk's frame word Moves. disk: Read, Image. disk: carryOut, emptyCache, carryOutTorn, Flush, Crash. -/
import Derived.Test.YtdmkkfpbgpijjaaGreatWaz
import Derived.Deep.WholeRow
import Derived.Deep.RegionHeld3
import Derived.Deep.DrawnRows
namespace Go.Proofs.YtdmkkfpbgpijjaaGreat
open Go.RowKit Go.Deep Go.Maps

theorem there_of_cells {w : World} {b : Nat} {C : Array Value} {t : TypeId} (hb : w.heap[b]? = some (.cells C t)) (n : Nat) (hn : n ≤ C.size) : w.there b 0 n := fun j hj => by
  have hc : w.cell? ⟨b, 0 + j, none⟩ = C[0 + j]? := cell_of_row w b (0 + j) C t _ hb
  refine ⟨by rw [hc]; simp; omega, ?_⟩
  simp [World.frozen?, hb]
/-- A new variable of many cells. -/
theorem wpList_allocT {P : Program} {ops : Array Oper} {rest : List Oper} {o : Oper} {a : Act} {Q : Exit → Act → World → Prop} {W : World} (hgd : o.guard = none) (ty : TypeId) (ho : o.op = .alloc ty) (Z : Array Value) (n : Nat) (hZ : Z.size = n)
    (hz : (P.info? ty).map (fun i => (i.zero, i.size)) = some (some (.agg Z), n))
    (h : ∀ W1 : World, W1.heap.size = W.heap.size + 1 → Below W.heap.size W W1 → W1.there W.heap.size 0 n → wpList P ops Q rest (a.put o.dst (.pointer (some ⟨W.heap.size, 0, none⟩))) W1) : wpList P ops Q (o :: rest) a W := by
  obtain ⟨z1, _⟩ := zero_of_info hz
  refine wpList_plain hgd fun K hK => ?_
  unfold Oper.wp
  simp [execOp, ho, Instr.alloc, z1 W, newVar, Value.cells, Result.andThen]
  refine hK _ _ (h _ (by simp) ((Below.refl _ _).alloc (Nat.le_refl _) _) ?_)
  exact there_of_cells (heap_alloc_new W _) n (by omega)
/-- A store of many cells. -/
theorem wpList_storeT {P : Program} {ops : Array Oper} {rest : List Oper} {o : Oper} {a : Act} {Q : Exit → Act → World → Prop} {W : World} (hgd : o.guard = none) (ty : TypeId) (x y : Operand) (ho : o.op = .store ty x y)
    (b f : Nat) (cs : List Value) (hx : a.eval x = .pointer (some ⟨b, f, none⟩)) (hy : a.eval y = .agg cs.toArray) (ht : W.there b f cs.length) (hi : (P.info? ty).map (·.size) = some cs.length) (h1 : ∀ v ∈ cs, v.oneCell' = true)
    (h : ∀ W2 : World, Hid (W2 = W.setCells b f cs) → wpList P ops Q rest (a.put o.dst undef) W2) : wpList P ops Q (o :: rest) a W :=
  wpList_store_mid hgd ty x y ho b f cs.toArray hx hy (by simpa using ht) (by simpa using hi) (all_oneCell_toArray h1) (h _ (Lib.hid rfl))

theorem moves_store {W W2 : World} {b f : Nat} {cs : List Value} (h : Hid (W2 = W.setCells b f cs)) : Moves (· = b) W W2 := by
  rw [h.out]; exact moves_setCells (· = b) b rfl cs f W
theorem size_store {W W2 : World} {b f : Nat} {cs : List Value} (h : Hid (W2 = W.setCells b f cs)) : W2.heap.size = W.heap.size := by
  have e := h.out
  clear h
  subst e
  induction cs generalizing f W with
  | nil => rfl
  | cons v cs ih =>
    show ((W.setCell ⟨b, f, none⟩ v).setCells b (f + 1) cs).heap.size = _
    rw [ih]
    simp
theorem below_store {W W2 : World} {b f B : Nat} {cs : List Value} (h : Hid (W2 = W.setCells b f cs)) (hB : B ≤ W.heap.size) (hb : B ≤ b) : Below B W W2 := (moves_store h).below hB (fun _ e => by subst e; exact hb)
theorem range_store {W W2 : World} {b f : Nat} {cs : List Value} (h : Hid (W2 = W.setCells b f cs)) (ht : W.there b f cs.length) : W2.rangeAt b f cs := by
  rw [h.out]; exact World.rangeAt_setCells_same W b f cs ht
theorem there_store {W W2 : World} {b f b' f' n : Nat} {cs : List Value} (h : Hid (W2 = W.setCells b f cs)) (ht : W.there b' f' n) : W2.there b' f' n := by
  rw [h.out]; exact World.there_setCells ht b f cs
theorem range_store_apart {W W2 : World} {b f b' f' : Nat} {cs cs' : List Value} (h : Hid (W2 = W.setCells b f cs)) (hr : W.rangeAt b' f' cs') (hap : b' ≠ b ∨ f' + cs'.length ≤ f ∨ f + cs.length ≤ f') : W2.rangeAt b' f' cs' := by
  rw [h.out]; exact World.rangeAt_setCells_apart hr b f cs hap

set_option maxRecDepth 100000 in
theorem info_sec2 : (Tryz.prog.info? 98).map (fun i => (i.zero, i.size)) = some (some (.agg (Array.replicate 32 (Value.int .u8 0))), 32) := by kernel_rfl
set_option maxRecDepth 100000 in
theorem size_sec : (Tryz.prog.info? 98).map (·.size) = some 32 := by kernel_rfl
theorem zero_sec (w : World) : (zeroValue 98).run Tryz.prog w = .ok (.agg (secC zeros32).toArray) w := by
  have := (zero_of_info info_sec2).1 w
  rw [this]; rfl
theorem intK : Keyed Tryz.prog 3 := int_keyed Tryz.underlying3
theorem keyI (i : Nat) (h : i ≤ 512) : keyOf Tryz.prog 3 (.int .i64 i) = some (keyL i) := keyOf_int_mk Tryz.underlying3 (WalkArith.wf_i64 (by omega))

/-- 'v, ok := m[k]' on sectors: the value's shape written out. -/
theorem wpList_lookup_sec {ops : Array Oper} {rest : List Oper} {o : Oper} {a : Act} {Q : Exit → Act → World → Prop} {W : World} (hg : o.guard = none) (m x : Operand) (hop : o.op = Op.lookup 65 m x true)
    (mb n i : Nat) (ws : List (Nat × List Int)) (hm : a.eval m = .map (some mb)) (hown : W.ownsMap Tryz.prog 3 secR mb n (mapOf ws)) (hx : a.eval x = .int .i64 i) (hi : i ≤ 512)
    (hK : ∀ zs, zs = (lastIn i ws).getD zeros32 → wpList Tryz.prog ops Q rest (a.put o.dst (.tuple #[.agg (secC zs).toArray, .bool (lastIn i ws).isSome])) W) : wpList Tryz.prog ops Q (o :: rest) a W :=
  wpList_lookup_own_ok W hg m x 65 hop 3 98 intK Tryz.underlying65 secR (zero_sec W) (secD zeros32) [] (secR_mk zeros32) mb n (mapOf ws) hm hown _ (keyL i) hx (keyI i hi) (fun v ps hv => by
    rw [(mapOf_says i ws (secD zeros32)).1]
    rw [(mapOf_says i ws (secD zeros32)).2] at hv
    have e : ((lastIn i ws).map secD).getD (secD zeros32) = secD ((lastIn i ws).getD zeros32) := by cases lastIn i ws <;> rfl
    rw [e] at hv
    rw [secR_inv hv]
    exact hK _ rfl)
theorem wpList_lookup_none {ops : Array Oper} {rest : List Oper} {o : Oper} {a : Act} {Q : Exit → Act → World → Prop} {W : World} (hg : o.guard = none) (m x : Operand) (hop : o.op = Op.lookup 65 m x true)
    (mb n i : Nat) (ws : List (Nat × List Int)) (hm : a.eval m = .map (some mb)) (hown : W.ownsMap Tryz.prog 3 secR mb n (mapOf ws)) (hx : a.eval x = .int .i64 i) (hi : i ≤ 512) (hl : lastIn i ws = none)
    (hK : ∀ zs : List Int, Hid (zs.length = 32) → wpList Tryz.prog ops Q rest (a.put o.dst (.tuple #[.agg (secC zs).toArray, .bool false])) W) : wpList Tryz.prog ops Q (o :: rest) a W :=
  wpList_lookup_sec hg m x hop mb n i ws hm hown hx hi (by
    rw [hl]
    intro zs hz
    subst hz
    exact hK _ (Lib.hid rfl))
/-- 'clear(m)'. -/
theorem wpList_clear_own {P : Program} {ops : Array Oper} {rest : List Oper} {o : Oper} {a : Act} {Q : Exit → Act → World → Prop} {W : World} (hg : o.guard = none) (m : Operand) (t : TypeId) (hop : o.op = Op.call { callee := Callee.builtin Builtin.clear, args := #[m], argTypes := #[t] })
    (k e : TypeId) (ht : P.underlying t = some (.map k e)) (R : Value → Option (DataW Unit × List MemPlace)) (mb n : Nat) (D : DataW Unit) (hm : a.eval m = .map (some mb)) (hown : W.ownsMap P k R mb n D)
    (hK : ∀ W2 : World, W2.ownsMap P k R mb 0 (.map []) → Moves (· = mb) W W2 → wpList P ops Q rest (a.put o.dst (.tuple #[])) W2) : wpList P ops Q (o :: rest) a W := by
  obtain ⟨es, clock, hb, F, hs, rfl⟩ := hown
  have hrun : (Builtin.clear_ #[t] o.type #[.map (some mb)]).run P W = .ok (.tuple #[]) (ChangeMaps.setBlock W mb (.map #[] clock)) := by
    simp [Builtin.clear_, run_underlying ht, MapKept.run_getObj_map hb, MapKept.run_setObj_map _ hb, Result.andThen, ChangeMaps.setBlock]
  refine wpList_plain hg fun K' hK' => ?_
  unfold Oper.wp
  simp [execOp, hop, resolve, invoke, builtin, hm, hrun, Result.andThen]
  refine hK' _ _ (hK _ ⟨#[], clock, ChangeMaps.heap_setBlock_same hb _, ⟨by simp, MapKept.stamped_empty clock, by simp⟩, Nat.le_refl _, rfl⟩ ⟨rfl, rfl, rfl, by simp [ChangeMaps.setBlock], fun i _ hi => ChangeMaps.heap_setBlock_other hb _ hi⟩)
end Go.Proofs.YtdmkkfpbgpijjaaGreat
namespace Go.Proofs.YtdmkkfpbgpijjaaGreat
open Go.RowKit Go.Deep Go.Maps

/-- A call that answers a sector's bytes in new memory. -/
def ReadSays (zs : List Int) (w : World) (e : Ending) (w' : World) : Prop := ∃ b, e = .returned (.tuple #[.slice (some ⟨b, 0, none⟩) 32 32, .int .i64 0]) ∧ w'.rangeAt b 0 (secC zs) ∧ w.heap.size ≤ b ∧ b < w'.heap.size ∧ Below w.heap.size w w'
set_option maxRecDepth 100000 in
set_option maxHeartbeats 1000000 in
theorem read_ok (db lb mb : Nat) (cv : Value) (n i : Nat) (st : St) (zs : List Int) (hz : nowAt st i = zs) (w : World) (h : DiskIn w db lb mb cv n st) (hi : i < n) :
    Calls Tryz.prog 56 #[.pointer (some ⟨db, 0, none⟩), .int .i64 i] w (ReadSays zs w) := by
  have c0 := h.c0
  have c2 := h.c2
  have hg : goodAt n i = true := by unfold goodAt; simp; omega
  have hn2 := h.n2
  have hown := h.map
  cases hl : lastIn i st.cache with
  | some ys =>
    have hy := h.wf.has _ (lastIn_mem i _ _ hl)
    have hzs : ys = zs := by
      rw [← hz]; unfold nowAt nows; rw [carry_at _ _ _ (by rw [h.wf.len]; exact hi), hl]; rfl
    subst hzs
    have HL := Lib.hid hl
    have HG := Lib.hid hg
    have HZ := Lib.hid hz
    clear hl hg hz
    go_enter Tryz.func56, Tryz.ntmps56
    go_wp2_with fail
    refine (there_any db lb n i _ c0).mono ?_
    rintro e w' ⟨rfl, rfl⟩
    rw [HG.out]
    have hy' : (secC ys).length = 32 := by rw [secC_len]; exact hy
    have HY := Lib.hid hy'
    clear hy hy'
    go_wp2_with (first | (at_lookup; refine wpList_lookup_sec rfl _ _ rfl mb _ i _ rfl hown rfl (by omega) ?_; rw [HL.out]; intro zs1 hzs1; obtain rfl := hzs1) | (refine wpList_allocT rfl 98 rfl _ 32 (by simp) info_sec2 ?_; intro W1 e1 b1 t1; have T1 := Lib.hid t1; have E1 := Lib.hid e1; clear t1 e1) | (refine wpList_storeT rfl 98 _ _ rfl _ _ (secC zs1) rfl rfl (by rw [HY.out]; exact T1.out) (by rw [HY.out]; exact size_sec) (secC_one _) ?_; intro W2 e2))
    go_ret2
    have hs := size_store e2
    have hs1 := E1.out
    refine ⟨w.heap.size, rfl, range_store e2 (by rw [HY.out]; exact T1.out), Nat.le_refl _, by omega, b1.trans (below_store e2 (by omega) (Nat.le_refl _))⟩
  | none =>
    have hsec := h.secs i (by rw [h.wf.len]; exact hi)
    have hzs : secAt st.safe i = zs := by
      rw [← hz]; unfold nowAt nows; rw [carry_at _ _ _ (by rw [h.wf.len]; exact hi), hl]; rfl
    have hy' : (secC zs).length = 32 := by rw [secC_len, ← hz]; exact h.wf.now_len hi
    rw [hzs] at hsec
    have HY := Lib.hid hy'
    have HL := Lib.hid hl
    have HG := Lib.hid hg
    have hR := Lib.hid hsec.1
    have hlt : (i : Int) < (n : Int) := by omega
    have hlt1 := h.lt1
    have hlt0 := h.lt0
    clear hl hg hz hy' hzs hsec
    go_enter Tryz.func56, Tryz.ntmps56
    go_wp2_with fail
    refine (there_any db lb n i _ c0).mono ?_
    rintro e w' ⟨rfl, rfl⟩
    rw [HG.out]
    go_wp2_with (first | (at_lookup; refine wpList_lookup_none rfl _ _ rfl mb _ i _ rfl hown rfl (by omega) HL.out ?_; intro ys hys; have HZ := Lib.hid ((secC_len ys).trans hys.out)) | (refine wpList_allocT rfl 98 rfl _ 32 (by simp) info_sec2 ?_; intro W1 e1 b1 t1; have T1 := Lib.hid t1; have E1 := Lib.hid e1; clear t1 e1) | (refine wpList_storeT rfl 98 _ (.tmp 19) rfl _ _ (secC ys) rfl rfl (by rw [HZ.out]; exact T1.out) (by rw [HZ.out]; exact size_sec) (secC_one _) ?_; intro W2 e2; have b2 := Lib.hid (b1.trans (below_store e2 (by have := E1.out; omega) (Nat.le_refl _))); have c0b : W2.cell? ⟨db, 0, none⟩ = some (.slice (some ⟨lb, 0, none⟩) n n) := (b2.out.cell (p := ⟨db, 0, none⟩) hlt0).trans c0) | (refine wpList_load_mid rfl 98 (.tmp 28) rfl lb (i * 32) rfl (secC zs) _ (rangeAt_of_block' (b2.out.block _ hlt1) hR.out) Tryz.underlying98 rfl (by rw [HY.out]; exact size_sec) ?_) | (refine wpList_storeT rfl 98 _ (.tmp 29) rfl _ _ (secC zs) rfl rfl (by rw [HY.out]; exact there_store e2 T1.out) (by rw [HY.out]; exact size_sec) (secC_one _) ?_; intro W3 e3))
    go_ret2
    have hs := size_store e2
    have hs3 := size_store e3
    have hs1 := E1.out
    refine ⟨w.heap.size, rfl, range_store e3 (by rw [HY.out]; exact there_store e2 T1.out), Nat.le_refl _, by omega, b2.out.trans (below_store e3 (by omega) (Nat.le_refl _))⟩
theorem good_of_range {b : Nat} {zs : List Int} {w : World} (h : w.rangeAt b 0 (secC zs)) (hb : b < w.heap.size) (n : Nat) (hn : zs.length ≤ n) : Good (some ⟨b, 0, none⟩) n zs w :=
  ⟨fun _ => ⟨b, 0, rfl, hb, fun j hj => h j _ (by simp [secC, hj])⟩, hn, fun e => by cases e⟩
set_option maxRecDepth 100000 in
set_option maxHeartbeats 1000000 in
theorem image_any (db lb mb : Nat) (cv : Value) (n : Nat) (st : St) (zs : List Int) (hz : st.safe.flatten = zs) (w : World) (h : DiskIn w db lb mb cv n st) (hn : n ≤ 300) :
    Calls Tryz.prog 26 #[.pointer (some ⟨db, 0, none⟩)] w (GivesB zs w) := by
  have c0 := h.c0
  have h1 := h.n1
  obtain ⟨i0, hi, hz0, hz1, hz2⟩ := info_parts info_u8
  have hmk : ∀ w : World, (Instr.makeSlice 39 (.int .i64 0) (.int .i64 ((n : Int) * 32))).run Tryz.prog w = .ok (.slice (some ⟨w.heap.size, 0, none⟩) 0 (n * 32)) (w.alloc (.cells (madeCells #[Value.int .u8 0] (n * 32)) 5)) := by
    intro w
    have := run_make (P := Tryz.prog) w 39 5 i0 _ Tryz.underlying39 hi hz0 .i64 .i64 0 ((n : Int) * 32) (by omega) (by omega) (by rw [hz2]; omega) (by omega)
    rw [hz1] at this
    have e : ((n : Int) * 32).toNat = n * 32 := by omega
    simpa [Value.cells, e] using this
  have hown0 : Owns w.heap.size (w.alloc (.cells (madeCells #[Value.int .u8 0] (n * 32)) 5)) (.slice (some ⟨w.heap.size, 0, none⟩) 0 (n * 32)) [] :=
    World.ownsRow_made w _ (n * 32) (Nat.le_refl _) (by simp only [maxLen]; omega) (by simp [madeCells])
  have HO := Lib.hid hown0
  have HZ := Lib.hid hz
  generalize madeCells #[Value.int .u8 0] (n * 32) = C at *
  have c0' : ∀ o : Obj, (w.alloc o).cell? ⟨db, 0, none⟩ = some (.slice (some ⟨lb, 0, none⟩) n n) := fun o => (World.cell?_alloc_lt w o _ h.lt0).trans c0
  clear hi hz0 hz1 hz2 hown0 hz
  go_enter Tryz.func26, Tryz.ntmps26
  go_wp2
  go_loopw [3, 18] (fun o k wr => ∃ j : Nat, j ≤ n ∧ k = .int .i64 j ∧ Owns w.heap.size wr o ((st.safe.take j).flatten) ∧ Below w.heap.size w wr) (fun _ k _ => n - (intOf k).toNat)
  case atStart => exact ⟨0, by omega, rfl, HO.out, (Below.refl _ _).alloc (Nat.le_refl _) _⟩
  case round =>
    obtain ⟨j, hj, rfl, ho, hb⟩ := hrel
    by_cases hlt : j < n
    · have hsec := h.secs j (by rw [h.wf.len]; exact hlt)
      have hy : (secAt st.safe j).length = 32 := secAt_len h.wf.len h.wf.secs hlt
      have hR := Lib.hid (rangeAt_of_block' (hb.block _ h.lt1) hsec.1)
      have hf := Lib.hid (flat_take st.safe j (by rw [h.wf.len]; exact hlt))
      have hll : ((st.safe.take j).flatten).length ≤ 9700 := by
        have := flat_len (st.safe.take j) (n := j) (by rw [List.length_take, h.wf.len]; omega) (fun z hz => h.wf.secs z (List.mem_of_mem_take hz))
        omega
      generalize secAt st.safe j = ys at *
      generalize (st.safe.take j).flatten = acc at *
      have hy' : (secC ys).length = 32 := by rw [secC_len]; exact hy
      have HY := Lib.hid hy'
      have HY0 := Lib.hid hy
      have hlt' : (j : Int) < (n : Int) := by omega
      have hsz := hb.size
      have HO1 := Lib.hid ho
      clear hsec hy hy' ho
      go_wp2_with (first | (refine wpList_load_mid rfl 98 (.tmp 20) rfl lb (j * 32) rfl (secC ys) _ hR.out Tryz.underlying98 rfl (by rw [HY.out]; exact size_sec) ?_) | (refine wpList_allocT rfl 98 rfl _ 32 (by simp) info_sec2 ?_; intro W1 e1 b1 t1; have T1 := Lib.hid t1; have E1 := Lib.hid e1; clear t1 e1) | (refine wpList_storeT rfl 98 _ (.tmp 21) rfl _ _ (secC ys) rfl rfl (by rw [HY.out]; exact T1.out) (by rw [HY.out]; exact size_sec) (secC_one _) ?_; intro W2 e2; have b2 := Lib.hid (b1.trans (below_store e2 (by have := E1.out; omega) (Nat.le_refl _))); have g2 := Lib.hid (range_store e2 (by rw [HY.out]; exact T1.out)); have z2 := size_store e2) | (at_builtin; refine wpList_appendB rfl _ _ rfl w.heap.size _ acc rfl (HO1.out.below b2.out) _ ys 32 32 rfl HY0.out (good_of_range g2.out (by have := E1.out; omega) 32 (Nat.le_of_eq HY0.out)) (by rw [HY0.out]; omega) (by have := b2.out.size; omega) w (hb.trans (b2.out.mono hsz)) ?_; intro v' W3 o3 b3))
      go_roundw
      case rel => exact ⟨j + 1, by omega, by go_num, by rw [hf.out]; exact o3, b3⟩
      case measure => simp [intOf]; omega
    · obtain rfl : j = n := by omega
      go_wp2
      go_ret
      refine ⟨_, rfl, ?_, hb⟩
      rw [← HZ.out]
      have e : st.safe.take j = st.safe := List.take_of_length_le (by rw [h.wf.len]; exact Nat.le_refl _)
      rw [e] at ho
      exact ho
end Go.Proofs.YtdmkkfpbgpijjaaGreat
namespace Go.Proofs.YtdmkkfpbgpijjaaGreat
open Go.RowKit Go.Deep Go.Maps

set_option maxRecDepth 100000 in
theorem info_wr2 : (Tryz.prog.info? 100).map (fun i => (i.zero, i.size)) = some (some (.agg (#[Value.int .i64 0] ++ Array.replicate 32 (Value.int .u8 0))), 33) := by kernel_rfl
set_option maxRecDepth 100000 in
theorem size_wr : (Tryz.prog.info? 100).map (·.size) = some 33 := by kernel_rfl

theorem wrC_len (p : Nat × List Int) (h : p.2.length = 32) : (wrC p).length = 33 := by simp [wrC, secC_len, h]
/-- The cells of the j-th write in the cache. -/
theorem row_range {w : World} {cv : Value} {g : Nat} {ws : List (Nat × List Int)} (h : w.ownsRow 0 100 33 cv ws.length (ws.flatMap wrC)) (hg : cv.ownBlock = some g) (hl : ∀ p ∈ ws, p.2.length = 32) {j : Nat} {p : Nat × List Int} (hj : ws[j]? = some p) :
    w.rangeAt g (j * 33) (wrC p) := fun k v hv => by
  have hp := wrC_len p (hl p (List.mem_of_getElem? hj))
  have hk : k < 33 := by
    rcases Nat.lt_or_ge k 33 with h | h
    · exact h
    · rw [List.getElem?_eq_none (by omega)] at hv; cases hv
  have := h.cells hg (j * 33 + k) v (by rw [flatD_at wrC 33 ws (fun x hx => wrC_len x (hl x hx)) j p hj k hk]; exact hv)
  rwa [Go.WideShapes.add_plain, Nat.zero_add] at this
theorem cell_apart {W : World} {b o b' f : Nat} {vs : List Value} (hne : b' ≠ b) : (W.setCells b o vs).cell? ⟨b', f, none⟩ = W.cell? ⟨b', f, none⟩ := World.cell?_setCells_out b vs o W ⟨b', f, none⟩ (fun e => absurd e hne)
theorem setCells_drew (b : Nat) : ∀ (vs : List Value) (o : Nat) (w : World), w.drew.setCells b o vs = (w.setCells b o vs).drew
  | [], _, _ => rfl
  | v :: vs, o, w => setCells_drew b vs (o + 1) (w.setCell ⟨b, o, none⟩ v)
/-- A sector is written. -/
theorem Secs.set {W W2 : World} {lb n : Nat} {s : List (List Int)} {i : Nat} {zs : List Int} (h : Secs W lb s) (hl : s.length = n) (hs : ∀ z ∈ s, z.length = 32) (hz : zs.length = 32) (e : Hid (W2 = W.setCells lb (i * 32) (secC zs))) : Secs W2 lb (s.set i zs) := by
  intro k hk
  rw [List.length_set] at hk
  rw [secAt_set _ _ _ _ hk]
  by_cases he : i = k
  · subst he
    rw [if_pos rfl]
    exact ⟨range_store e (by rw [secC_len, hz]; exact (h i hk).2), there_store e (h i hk).2⟩
  · rw [if_neg he]
    have h1 := secAt_len hl hs (by omega : k < n)
    exact ⟨range_store_apart e (h k hk).1 (.inr (by rw [secC_len, secC_len, h1, hz]; omega)), there_store e (h k hk).2⟩
set_option maxRecDepth 100000 in
/-- Behind a write of one sector that lasts. -/
theorem DiskIn.stored {W W2 : World} {db lb mb : Nat} {cv : Value} {n : Nat} {st : St} {i : Nat} {zs : List Int} (h : DiskIn W db lb mb cv n st) (hz : zs.length = 32) (e : Hid (W2 = W.setCells lb (i * 32) (secC zs))) : DiskIn W2 db lb mb cv n { st with safe := st.safe.set i zs } := by
  have hm := moves_store e
  have hb : ∀ k, k < W.heap.size → k ≠ lb → W2.heap[k]? = W.heap[k]? := fun k hk hn => hm.block k hk hn
  have h0 := hb db h.lt0 h.ne1
  exact { c0 := (World.cell?_of_block (a := ⟨db, 0, none⟩) h0).trans h.c0, c1 := (World.cell?_of_block (a := ⟨db, 1, none⟩) h0).trans h.c1, c2 := (World.cell?_of_block (a := ⟨db, 2, none⟩) h0).trans h.c2, fz := (World.frozen?_of_block (a := ⟨db, 1, none⟩) h0).trans h.fz
          secs := h.secs.set h.wf.len h.wf.secs hz e, row := row_kept h.row (fun k hk => hb k (h.row.lt k hk).2 (fun x => h.ne5 (x ▸ hk))), map := map_kept h.map (hb mb h.map.lt (Ne.symm h.ne3))
          wf := ⟨by simpa using h.wf.len, fun z hz' => by
            rcases List.mem_or_eq_of_mem_set hz' with h1 | h1
            · exact h.wf.secs z h1
            · rw [h1]; exact hz, h.wf.at_, h.wf.has⟩
          n1 := h.n1, n2 := h.n2, lt0 := by rw [size_store e]; exact h.lt0, lt1 := by rw [size_store e]; exact h.lt1, ne1 := h.ne1, ne2 := h.ne2, ne3 := h.ne3, ne4 := h.ne4, ne5 := h.ne5, ne6 := h.ne6 }

attribute [local go_sem ↓] Go.wp_at_zero Go.wp_at_succ
def CarrySays (db lb mb : Nat) (cv : Value) (n : Nat) (st : St) (w : World) (e : Ending) (w' : World) : Prop := e = .returned (.tuple #[]) ∧ DiskIn w' db lb mb cv n st ∧ Moves (· = lb) w w'
set_option maxRecDepth 100000 in
set_option maxHeartbeats 1000000 in
theorem carry_any (db lb mb : Nat) (cv : Value) (n : Nat) (st : St) (A : Option Addr) (l c : Nat) (w : World) (h : DiskIn w db lb mb cv n st) (hcv : ∃ L C, cv = .slice A L C) (hl : l ≤ st.cache.length) (hl2 : l ≤ 1000) :
    Calls Tryz.prog 48 #[.pointer (some ⟨db, 0, none⟩), .slice A l c] w (CarrySays db lb mb cv n { st with safe := carry st.safe (st.cache.take l) } w) := by
  go_enter Tryz.func48, Tryz.ntmps48
  go_wp2
  go_loopw [8] (fun k wr => ∃ j : Nat, j ≤ l ∧ k = .int .i64 j ∧ DiskIn wr db lb mb cv n { st with safe := carry st.safe (st.cache.take j) } ∧ Moves (· = lb) w wr) (fun k _ => l - (intOf k).toNat)
  case atStart => exact ⟨0, by omega, rfl, h, Moves.refl _ _⟩
  case round =>
    obtain ⟨j, hj, rfl, hd, hm⟩ := hrel
    by_cases hlt : j < l
    · have hjc : j < st.cache.length := by omega
      have hp : st.cache[j]? = some st.cache[j] := List.getElem?_eq_getElem hjc
      have hmem := List.mem_of_getElem? hp
      have hta := Lib.hid (List.take_succ_eq_append_getElem hjc)
      generalize st.cache[j] = p at *
      have hp1 := h.wf.at_ p hmem
      have hp2 := h.wf.has p hmem
      obtain ⟨L, C, rfl⟩ := hcv
      have hdr := hd.row
      obtain ⟨cb, cap, hv, _, hcl⟩ := hdr.form (by show 0 < st.cache.length; omega)
      obtain rfl : A = some ⟨cb, 0, none⟩ := by injection hv
      have hR := Lib.hid (row_range hdr rfl hd.wf.has hp)
      have hc33 := Lib.hid (wrC_len p hp2)
      have hc32 := Lib.hid ((secC_len p.2).trans hp2)
      have hlt' : (j : Int) < (l : Int) := by omega
      clear hmem hp hv hdr
      have HP2 := Lib.hid hp2
      clear hp2
      go_wp2_with (first | (refine wpList_load_mid rfl 100 (.tmp 10) rfl cb (j * 33) rfl (wrC p) _ hR.out Tryz.underlying100 rfl (by rw [hc33.out]; exact size_wr) ?_) | (refine wpList_allocT rfl 100 rfl _ 33 (by simp) info_wr2 ?_; intro W1 e1 b1 t1; have T1 := Lib.hid t1; have E1 := Lib.hid e1; clear t1 e1) | (refine wpList_storeT rfl 100 _ (.tmp 11) rfl _ _ (wrC p) rfl rfl (by rw [hc33.out]; exact T1.out) (by rw [hc33.out]; exact size_wr) (wrC_one _) ?_; intro W2 e2))
      have hs2 := size_store e2
      have hs1 := E1.out
      have hW2 : Below wr.heap.size wr W2 := b1.trans (below_store e2 (by omega) (Nat.le_refl _))
      have hd2 := hd.below hW2
      have hr2 := range_store e2 (by rw [hc33.out]; exact T1.out)
      obtain ⟨pi, pz⟩ := p
      have k0 : W2.cell? ⟨db, 0, none⟩ = some (.slice (some ⟨lb, 0, none⟩) n n) := hd2.c0
      have k1 : W2.cell? ⟨wr.heap.size, 0, none⟩ = some (.int .i64 pi) := hr2 0 _ rfl
      have k2 : W2.rangeAt wr.heap.size 1 (secC pz) := fun q v hv => by
        have := hr2 (q + 1) v (by simpa [wrC] using hv)
        rwa [show 0 + (q + 1) = 1 + q by omega] at this
      have k3 : W2.there lb (pi * 32) 32 := (hd2.secs pi (by rw [hd2.wf.len]; exact hp1)).2
      have HD2 := Lib.hid hd2
      have HM := Lib.hid hm
      have HB := Lib.hid hW2
      have hcs := hc32.out
      have hu := Tryz.underlying98
      have hi : (Tryz.prog.info? 98).map (·.size) = some (secC pz).length := by rw [hcs]; exact size_sec
      have hone := secC_one pz
      have hset := Lib.hid (fun W3 (e : Hid (W3 = W2.setCells lb (pi * 32) (secC pz))) => (hd2.stored HP2.out e).below (below_drewN (Below.refl _ _) 1))
      have hmv := Lib.hid (fun W3 (e : Hid (W3 = W2.setCells lb (pi * 32) (secC pz))) => (((hm.trans (moves_of_below (F := (· = lb)) hW2) (fun _ x => .inl x)).trans (moves_store e) (fun _ x => .inl x)).trans (moves_drewN (· = lb) W3 1) (fun _ x => .inl x)))
      have hpi0 : (0 : Int) ≤ (pi : Int) := by omega
      have hpi1 : (pi : Int) < (n : Int) := by omega
      have hne0 : db ≠ lb := h.ne1
      have hne1 : wr.heap.size ≠ lb := by have := hd.lt1; omega
      generalize wr.heap.size = nb at *
      clear hr2 hd2 hs1 hs2 e2 hm hW2 b1 T1 E1 hd h hR
      generalize secC pz = cs at *
      go_region_held3 (fun w' => w'.cell? ⟨db, 0, none⟩ = some (.slice (some ⟨lb, 0, none⟩) n n) ∧ w'.cell? ⟨nb, 0, none⟩ = some (.int .i64 (pi : Int)) ∧ w'.rangeAt nb 1 cs ∧ w'.there lb (pi * 32) 32) (first | go_keep_ranges | (go_split_ands; refine ⟨(cell_apart hne0).trans (by assumption), (cell_apart hne1).trans (by assumption), World.rangeAt_setCells_apart (by assumption) _ _ _ (.inl hne1), World.there_setCells (by assumption) _ _ _⟩)) (fail)
      rw [setCells_drew]
      have hh := hset.out _ (Lib.hid rfl)
      have hmm := hmv.out _ (Lib.hid rfl)
      clear hset hmv HD2 HM HB k0 k1 k2 k3 hi hone hcs hc32
      change DiskIn (W2.setCells lb (pi * 32) cs).drew _ _ _ _ _ _ at hh
      change Moves _ w (W2.setCells lb (pi * 32) cs).drew at hmm
      generalize (W2.setCells lb (pi * 32) cs).drew = W3 at hh hmm ⊢
      go_wp2
      go_roundw
      case rel =>
        refine ⟨j + 1, by omega, by go_num, ?_, hmm⟩
        rw [hta.out, carry_snoc]
        exact hh
      case measure => simp [intOf]; omega
    · obtain rfl : j = l := by omega
      go_wp2
      go_end0
      exact ⟨rfl, hd, hm⟩
def EmptySays (db lb mb n : Nat) (st : St) (w : World) (e : Ending) (w' : World) : Prop := e = .returned (.tuple #[]) ∧ DiskIn w' db lb mb (.slice none 0 0) n { st with cache := [] } ∧ Moves (fun k => k = db ∨ k = mb) w w'
theorem DiskIn.emptied {w W1 W2 : World} {db lb mb : Nat} {cv : Value} {n : Nat} {st : St} (h : DiskIn w db lb mb cv n st) (e1 : W1 = w.setCell ⟨db, 1, none⟩ (.slice none 0 0)) (h2 : W2.ownsMap Tryz.prog 3 secR mb 0 (.map [])) (hm : Moves (· = mb) W1 W2) :
    DiskIn W2 db lb mb (.slice none 0 0) n { st with cache := [] } ∧ Moves (fun k => k = db ∨ k = mb) w W2 := by
  have m1 : Moves (· = db) w W1 := by rw [e1]; exact moves_setCell _ _ _ _ rfl
  have hs1 : W1.heap.size = w.heap.size := by rw [e1]; simp
  have hd : W2.heap[db]? = W1.heap[db]? := hm.block db (by rw [hs1]; exact h.lt0) h.ne2
  have hl : W2.heap[lb]? = w.heap[lb]? := (hm.block lb (by rw [hs1]; exact h.lt1) h.ne3).trans (m1.block lb h.lt1 (Ne.symm h.ne1))
  have k1 : W1.cell? ⟨db, 1, none⟩ = some (.slice none 0 0) := by rw [e1]; exact World.cell?_setCell_same _ _ _ h.c1
  have k0 : W1.cell? ⟨db, 0, none⟩ = w.cell? ⟨db, 0, none⟩ := by rw [e1]; exact World.cell?_setCell_other _ _ _ _ (by simp)
  have k2 : W1.cell? ⟨db, 2, none⟩ = w.cell? ⟨db, 2, none⟩ := by rw [e1]; exact World.cell?_setCell_other _ _ _ _ (by simp)
  have kf : W1.frozen? ⟨db, 1, none⟩ = w.frozen? ⟨db, 1, none⟩ := by rw [e1]; exact World.frozen?_setCell _ _ _ _
  refine ⟨?_, (m1.mono (fun _ e => .inl e)).trans hm (fun _ e => .inl (.inr e))⟩
  exact { c0 := ((World.cell?_of_block (a := ⟨db, 0, none⟩) hd).trans k0).trans h.c0, c1 := (World.cell?_of_block (a := ⟨db, 1, none⟩) hd).trans k1, c2 := ((World.cell?_of_block (a := ⟨db, 2, none⟩) hd).trans k2).trans h.c2, fz := ((World.frozen?_of_block (a := ⟨db, 1, none⟩) hd).trans kf).trans h.fz
          secs := h.secs.kept hl, row := World.ownsRow_nil _ _ _ _, map := h2, wf := h.wf.empty, n1 := h.n1, n2 := h.n2, lt0 := Nat.lt_of_lt_of_le h.lt0 (by have := hm.size; omega), lt1 := Nat.lt_of_lt_of_le h.lt1 (by have := hm.size; omega)
          ne1 := h.ne1, ne2 := h.ne2, ne3 := h.ne3, ne4 := by simp [Value.ownBlock], ne5 := by simp [Value.ownBlock], ne6 := by simp [Value.ownBlock] }
set_option maxRecDepth 100000 in
set_option maxHeartbeats 1000000 in
theorem empty_any (db lb mb : Nat) (cv : Value) (n : Nat) (st : St) (w : World) (h : DiskIn w db lb mb cv n st) :
    Calls Tryz.prog 50 #[.pointer (some ⟨db, 0, none⟩)] w (EmptySays db lb mb n st w) := by
  have c1 := h.c1
  have c2 := h.c2
  have fz := h.fz
  have hmap := Lib.hid (h.map.setCell (a := ⟨db, 1, none⟩) (Ne.symm h.ne2) (.slice none 0 0))
  go_enter Tryz.func50, Tryz.ntmps50
  go_wp2_with (first | (refine wpList_clear_own rfl _ 65 rfl 3 98 Tryz.underlying65 secR mb _ _ rfl hmap.out ?_; intro W2 o2 m2; have H := Lib.hid (h.emptied rfl o2 m2)))
  go_end0
  exact ⟨rfl, H.out⟩
end Go.Proofs.YtdmkkfpbgpijjaaGreat
