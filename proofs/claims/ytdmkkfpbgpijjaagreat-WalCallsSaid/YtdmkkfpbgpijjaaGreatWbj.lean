/- The document's own disk (concordatref03) in memory: RefAt; Read, Image. The document's own disk: Read outside, Image, New. The document's own disk: New. The document's own disk: Write. -/
import Derived.Test.YtdmkkfpbgpijjaaGreatWbc
import Derived.Deep.RegionLaw
namespace Go.Proofs.YtdmkkfpbgpijjaaGreat
open Go.RowKit Go.Deep Go.Maps

theorem info_rw : (Tryz.prog.info? 102).map (fun i => (i.zero, i.size, i.bytes)) = some (some (.agg #[.int .i64 0, .slice none 0 0]), 2, 32) := by kernel_rfl
/-- A write in the cache, with where its bytes are. -/
abbrev En := (Nat × List Int) × Value
def enC (e : En) : List Value := [.int .i64 e.1.1, e.2]
structure RefIn (w : World) (rb : Nat) (sv cv : Value) (n : Nat) (st : St) (vs : List Value) (es : List En) : Prop where
  blk : ∃ C, w.heap[rb]? = some (.cells C 54)
  r0 : w.cell? ⟨rb, 0, none⟩ = some sv
  r1 : w.cell? ⟨rb, 1, none⟩ = some cv
  f0 : w.frozen? ⟨rb, 0, none⟩ = false
  f1 : w.frozen? ⟨rb, 1, none⟩ = false
  srow : w.ownsRow 0 39 1 sv n vs
  crow : w.ownsRow 0 102 2 cv es.length (es.flatMap enC)
  sdat : ∀ (i : Nat) v, vs[i]? = some v → Owns 0 w v (secAt st.safe i)
  cdat : ∀ e ∈ es, Owns 0 w e.2 e.1.2
  same : es.map (·.1) = st.cache
  wf : Wf n st
  n1 : 1 ≤ n
  n2 : n ≤ 60
theorem RefIn.lt {w : World} {rb : Nat} {sv cv : Value} {n : Nat} {st : St} {vs : List Value} {es : List En} (h : RefIn w rb sv cv n st vs es) : rb < w.heap.size := World.block_lt_of_cell? w ⟨rb, 0, none⟩ h.r0
theorem RefIn.kept {w w' : World} {rb : Nat} {sv cv : Value} {n : Nat} {st : St} {vs : List Value} {es : List En} (h : RefIn w rb sv cv n st vs es)
    (h0 : w'.heap[rb]? = w.heap[rb]?) (h1 : ∀ k, sv.ownBlock = some k → w'.heap[k]? = w.heap[k]?) (h2 : ∀ k, cv.ownBlock = some k → w'.heap[k]? = w.heap[k]?) (h3 : ∀ v ∈ vs, ∀ k, v.ownBlock = some k → w'.heap[k]? = w.heap[k]?) (h4 : ∀ e ∈ es, ∀ k, e.2.ownBlock = some k → w'.heap[k]? = w.heap[k]?) : RefIn w' rb sv cv n st vs es :=
  { blk := by obtain ⟨C, hb⟩ := h.blk; exact ⟨C, h0.trans hb⟩
    r0 := (World.cell?_of_block (a := ⟨rb, 0, none⟩) h0).trans h.r0, r1 := (World.cell?_of_block (a := ⟨rb, 1, none⟩) h0).trans h.r1, f0 := (World.frozen?_of_block (a := ⟨rb, 0, none⟩) h0).trans h.f0, f1 := (World.frozen?_of_block (a := ⟨rb, 1, none⟩) h0).trans h.f1
    srow := row_kept h.srow h1, crow := row_kept h.crow h2, sdat := fun i v hv => row_kept (h.sdat i v hv) (h3 v (List.mem_of_getElem? hv)), cdat := fun e he => row_kept (h.cdat e he) (h4 e he), same := h.same, wf := h.wf, n1 := h.n1, n2 := h.n2 }
theorem RefIn.below {w w' : World} {rb : Nat} {sv cv : Value} {n : Nat} {st : St} {vs : List Value} {es : List En} (h : RefIn w rb sv cv n st vs es) (hb : Below w.heap.size w w') : RefIn w' rb sv cv n st vs es :=
  h.kept (hb.block _ h.lt) (fun k hk => hb.block k (h.srow.lt k hk).2) (fun k hk => hb.block k (h.crow.lt k hk).2) (fun v hv k hk => by
    obtain ⟨i, hi⟩ := List.getElem?_of_mem hv
    exact hb.block k (World.ownsRow.lt (h.sdat i v hi) k hk).2) (fun e he k hk => hb.block k (World.ownsRow.lt (h.cdat e he) k hk).2)
def RefAt (w : World) (G : Nat → Prop) (rb n : Nat) (st : St) : Prop := ∃ sv cv vs es, RefIn w rb sv cv n st vs es ∧ G rb ∧ (∀ k, sv.ownBlock = some k → G k) ∧ (∀ k, cv.ownBlock = some k → G k) ∧ (∀ v ∈ vs, ∀ k, v.ownBlock = some k → G k) ∧ (∀ e ∈ es, ∀ k, e.2.ownBlock = some k → G k) ∧ ∀ k, G k → k < w.heap.size
theorem RefAt.lt {w : World} {G : Nat → Prop} {rb n : Nat} {st : St} (h : RefAt w G rb n st) : ∀ k, G k → k < w.heap.size := by
  obtain ⟨_, _, _, _, _, _, _, _, _, _, h⟩ := h; exact h
theorem RefAt.moves {w w' : World} {G F : Nat → Prop} {rb n : Nat} {st : St} (h : RefAt w G rb n st) (hm : Moves F w w') (hd : ∀ k, G k → ¬ F k) : RefAt w' G rb n st := by
  obtain ⟨sv, cv, vs, es, h, g0, g1, g2, g3, g4, g5⟩ := h
  have hk : ∀ k, G k → w'.heap[k]? = w.heap[k]? := fun k hk => hm.block k (g5 k hk) (hd k hk)
  exact ⟨sv, cv, vs, es, h.kept (hk _ g0) (fun k e => hk k (g1 k e)) (fun k e => hk k (g2 k e)) (fun v hv k e => hk k (g3 v hv k e)) (fun v hv k e => hk k (g4 v hv k e)), g0, g1, g2, g3, g4, fun k e => Nat.lt_of_lt_of_le (g5 k e) hm.size⟩
theorem RefAt.below {w w' : World} {G : Nat → Prop} {rb n : Nat} {st : St} (h : RefAt w G rb n st) (hb : Below w.heap.size w w') : RefAt w' G rb n st := h.moves (moves_of_below (F := fun _ => False) hb) (fun _ _ e => e)

/-! ### what is read -/
theorem vs_len {w : World} {rb : Nat} {sv cv : Value} {n : Nat} {st : St} {vs : List Value} {es : List En} (h : RefIn w rb sv cv n st vs es) : vs.length = n := by have := h.srow.1; omega
/-- The i-th sector's list. -/
theorem sec_cell {w : World} {rb : Nat} {sv cv : Value} {n : Nat} {st : St} {vs : List Value} {es : List En} (h : RefIn w rb sv cv n st vs es) {i : Nat} (hi : i < n) : ∃ sb cap v, sv = .slice (some ⟨sb, 0, none⟩) n cap ∧ sb < w.heap.size ∧ vs[i]? = some v ∧ w.cell? ⟨sb, i, none⟩ = some v ∧ w.frozen? ⟨sb, i, none⟩ = false ∧ Owns 0 w v (secAt st.safe i) ∧ (secAt st.safe i).length = 32 := by
  have hl := vs_len h
  obtain ⟨sb, cap, rfl, _, hlt⟩ := h.srow.form (by have := h.n1; omega)
  have hv : vs[i]? = some vs[i] := List.getElem?_eq_getElem (by omega)
  have hc := h.srow.cells (g := sb) rfl i vs[i] hv
  rw [Go.WideShapes.add_plain, Nat.zero_add] at hc
  refine ⟨sb, cap, vs[i], rfl, hlt, hv, hc, ?_, h.sdat i _ hv, secAt_len h.wf.len h.wf.secs hi⟩
  rcases h.srow.2 with ⟨h', _⟩ | ⟨g', cap', cur, h', hb, hg, _⟩
  · simp at h'
  · simp only [Value.slice.injEq, Option.some.injEq, Addr.mk.injEq, and_true, true_and] at h'
    obtain ⟨rfl, _⟩ := h'
    simp [World.frozen?, hg]
/-- The j-th write's cells. -/
theorem en_cells {w : World} {cv : Value} {es : List En} (h : w.ownsRow 0 102 2 cv es.length (es.flatMap enC)) {j : Nat} {e : En} (hj : es[j]? = some e) : ∃ cb cap, cv = .slice (some ⟨cb, 0, none⟩) es.length cap ∧ cb < w.heap.size ∧ w.cell? ⟨cb, j * 2, none⟩ = some (.int .i64 e.1.1) ∧ w.cell? ⟨cb, j * 2 + 1, none⟩ = some e.2 := by
  have hjl : j < es.length := by
    rcases Nat.lt_or_ge j es.length with h | h
    · exact h
    · rw [List.getElem?_eq_none h] at hj; cases hj
  obtain ⟨cb, cap, rfl, _, hlt⟩ := h.form (by omega)
  have h2 : ∀ x ∈ es, (enC x).length = 2 := fun x _ => rfl
  have c0 := h.cells (g := cb) rfl (j * 2 + 0) (.int .i64 e.1.1) (by rw [flatD_at enC 2 es h2 j e hj 0 (by omega)]; rfl)
  have c1 := h.cells (g := cb) rfl (j * 2 + 1) e.2 (by rw [flatD_at enC 2 es h2 j e hj 1 (by omega)]; rfl)
  rw [Go.WideShapes.add_plain, Nat.zero_add] at c0 c1
  exact ⟨cb, cap, rfl, hlt, c0, c1⟩
def GivesR (zs : List Int) (q : Int) (w : World) (e : Ending) (w' : World) : Prop := ∃ A c, e = .returned (.tuple #[.slice A zs.length c, .int .i64 q]) ∧ Good A c zs w' ∧ Below w.heap.size w w'
set_option maxRecDepth 100000 in
set_option maxHeartbeats 1000000 in
theorem rread_ok (G : Nat → Prop) (rb n i : Nat) (st : St) (zs : List Int) (w : World) (h : RefAt w G rb n st) (hi : i < n) (hz : nowAt st i = zs) (hc : st.cache.length ≤ 1000) :
    Calls Tryz.prog 35 #[.pointer (some ⟨rb, 0, none⟩), .int .i64 i] w (GivesR zs 0 w) := by
  obtain ⟨sv, cv, vs, es, h, _⟩ := h
  obtain ⟨sb, cap, v, rfl, hsb, hv, c0, _, hov, h32⟩ := sec_cell h hi
  have r0 := h.r0
  have r1 := h.r1
  have hlen : es.length = st.cache.length := by rw [← h.same, List.length_map]
  obtain ⟨cA, cC, rfl, _⟩ := row_shape h.crow
  have hel : es.length ≤ 1000 := by omega
  have i1 : (i : Int) < (n : Int) := by omega
  have d1 : decide ((i : Int) < 0) = false := by simp
  have d2 : decide ((n : Int) ≤ (i : Int)) = false := by simp; omega
  have d3 : decide (n ≤ i) = false := by simp; omega
  have hfin : nowAt st i = zs := hz
  have HZ := Lib.hid hz
  have HV := Lib.hid hov
  have H32 := Lib.hid h32
  have HLE := Lib.hid hlen
  clear hz hfin hov hv h32 hlen
  go_enter Tryz.func35, Tryz.ntmps35
  go_wp2
  go_loop [6, 7] (fun o k => ∃ (j : Nat) (ys : List Int), j ≤ es.length ∧ k = .int .i64 j ∧ Owns 0 w o ys ∧ ys = (lastIn i (st.cache.take j)).getD (secAt st.safe i) ∧ ys.length = 32) (fun _ k => es.length - (intOf k).toNat)
  case atStart => exact ⟨0, _, by omega, rfl, HV.out, rfl, H32.out⟩
  case round =>
    obtain ⟨j, ys, hj, rfl, ho, hy, hyl⟩ := hrel
    have HO := Lib.hid ho
    have HY := Lib.hid hy
    have HYL := Lib.hid hyl
    clear ho hy hyl
    by_cases hlt : j < es.length
    · have hlt' : (j : Int) < (es.length : Int) := by omega
      have hej : es[j]? = some es[j] := List.getElem?_eq_getElem hlt
      obtain ⟨cb, cap2, e2, hcb, k0, k1⟩ := en_cells h.crow hej
      simp only [Value.slice.injEq, true_and] at e2
      obtain ⟨rfl, rfl⟩ := e2
      have hmem := List.mem_of_getElem? hej
      have hcj : st.cache[j]? = some es[j].1 := by rw [← h.same, List.getElem?_map, hej]; rfl
      have hjc : j < st.cache.length := by rw [← HLE.out]; exact hlt
      have hcj2 : st.cache[j] = es[j].1 := by rw [List.getElem?_eq_getElem hjc] at hcj; injection hcj
      have hta : st.cache.take (j + 1) = st.cache.take j ++ [es[j].1] := by rw [List.take_succ_eq_append_getElem hjc, hcj2]
      have HTA := Lib.hid hta
      have hd := h.cdat _ hmem
      have hdl : (es[j].1.2).length = 32 := h.wf.has _ (List.mem_of_getElem? hcj)
      have HD := Lib.hid hd
      have HDL := Lib.hid hdl
      clear hej hmem hcj hcj2 hta hd hdl hjc
      generalize es[j] = en at *
      obtain ⟨⟨ea, ez⟩, ev⟩ := en
      simp only at k0 k1
      by_cases hea : ea = i
      · have e1 : ((ea : Int) == (i : Int)) = true := by simp [hea]
        have e2 : (ea == i) = true := by simpa using hea
        have HEA := Lib.hid hea
        clear hea
        go_wp2
        go_round
        case rel => exact ⟨j + 1, ez, by omega, by go_num, HD.out, by rw [HTA.out, lastIn_snoc, if_pos HEA.out]; rfl, HDL.out⟩
        case measure => simp [intOf]; omega
      · have e1 : ((ea : Int) == (i : Int)) = false := by simp; omega
        have e2 : (ea == i) = false := by simpa using hea
        have HEA := Lib.hid hea
        clear hea
        go_wp2
        go_round
        case rel => exact ⟨j + 1, ys, by omega, by go_num, HO.out, by rw [HTA.out, lastIn_snoc, if_neg HEA.out]; exact HY.out, HYL.out⟩
        case measure => simp [intOf]; omega
    · obtain rfl : j = es.length := by omega
      obtain ⟨A9, c9, e9, g9⟩ := HO.out.good
      subst e9
      have hfin : ys = zs := by
        rw [← HZ.out, HY.out, List.take_of_length_le (by rw [HLE.out]; exact Nat.le_refl _)]
        exact (carry_at st.cache i st.safe (by rw [h.wf.len]; exact hi)).symm
      have HFIN := Lib.hid hfin
      have G9 := Lib.hid g9
      clear hfin g9
      go_wp2_with fail
      refine (copyB A9 ys c9 ys.length rfl (by rw [HYL.out]; omega) w G9.out).mono ?_
      rintro e w2 ⟨v2, rfl, o2, b2⟩
      obtain ⟨A2, c2, rfl, g2⟩ := o2.good
      rw [HFIN.out] at g2 ⊢
      go_wp2
      go_ret2
      exact ⟨A2, c2, rfl, g2, b2⟩
end Go.Proofs.YtdmkkfpbgpijjaaGreat
namespace Go.Proofs.YtdmkkfpbgpijjaaGreat
open Go.RowKit Go.Deep Go.Maps
attribute [local go_sem ↓] Go.wp_at_zero Go.wp_at_succ

theorem sv_shape {w : World} {rb : Nat} {sv cv : Value} {n : Nat} {st : St} {vs : List Value} {es : List En} (h : RefIn w rb sv cv n st vs es) : ∃ sb cap, sv = .slice (some ⟨sb, 0, none⟩) n cap ∧ sb < w.heap.size := by
  obtain ⟨sb, cap, e, _, hlt⟩ := h.srow.form (by have := h.n1; omega)
  exact ⟨sb, cap, e, hlt⟩
set_option maxRecDepth 100000 in
set_option maxHeartbeats 1000000 in
theorem rimage_any (G : Nat → Prop) (rb n : Nat) (st : St) (zs : List Int) (w : World) (h : RefAt w G rb n st) (hz : st.safe.flatten = zs) :
    Calls Tryz.prog 27 #[.pointer (some ⟨rb, 0, none⟩)] w (GivesB zs w) := by
  obtain ⟨sv, cv, vs, es, h, _⟩ := h
  obtain ⟨sb, cap, rfl, hsb⟩ := sv_shape h
  have HZ := Lib.hid hz
  have n2 := h.n2
  have n1 := h.n1
  have hlit := ownsD_lit w w.heap.size (Nat.le_refl _)
  have HO := Lib.hid hlit
  clear hz hlit
  go_enter Tryz.func27, Tryz.ntmps27
  go_wp2
  go_loopw [3, 4] (fun o k wr => ∃ j : Nat, j ≤ n ∧ k = .int .i64 j ∧ Owns w.heap.size wr o ((st.safe.take j).flatten) ∧ Below w.heap.size w wr) (fun _ k _ => n - (intOf k).toNat)
  case atStart => exact ⟨0, by omega, rfl, HO.out, (Below.refl _ _).alloc (Nat.le_refl _) _⟩
  case round =>
    obtain ⟨j, hj, rfl, ho, hb⟩ := hrel
    have hR := h.below hb
    have r0 := hR.r0
    have hsz := hb.size
    by_cases hlt : j < n
    · have hlt' : (j : Int) < (n : Int) := by omega
      obtain ⟨sb2, cap2, v, e2, _, hv, c0, _, hov, h32⟩ := sec_cell hR hlt
      simp only [Value.slice.injEq, Option.some.injEq, Addr.mk.injEq, and_true, true_and] at e2
      obtain ⟨rfl, rfl⟩ := e2
      obtain ⟨A8, c8, e8, g8⟩ := hov.good
      subst e8
      have hf := Lib.hid (flat_take st.safe j (by rw [h.wf.len]; exact hlt))
      have hll : ((st.safe.take j).flatten).length ≤ 9000 := by
        have := flat_len (st.safe.take j) (n := j) (by rw [List.length_take, h.wf.len]; omega) (fun z hz => h.wf.secs z (List.mem_of_mem_take hz))
        omega
      generalize secAt st.safe j = ys at *
      generalize (st.safe.take j).flatten = acc at *
      have HY := Lib.hid h32
      have G8 := Lib.hid g8
      have HO1 := Lib.hid ho
      clear h32 g8 hov hv ho
      go_wp2_with (at_builtin; refine wpList_appendB rfl _ _ rfl w.heap.size _ acc rfl HO1.out _ ys ys.length c8 rfl rfl G8.out (by rw [HY.out]; omega) hsz w hb ?_; intro v' W3 o3 bb3)
      go_roundw
      case rel => exact ⟨j + 1, by omega, by go_num, by rw [hf.out]; exact o3, bb3⟩
      case measure => simp [intOf]; omega
    · obtain rfl : j = n := by omega
      have e : st.safe.take j = st.safe := List.take_of_length_le (by rw [h.wf.len]; exact Nat.le_refl _)
      rw [e] at ho
      have HO1 := Lib.hid ho
      clear ho e
      go_wp2
      go_ret
      refine ⟨_, rfl, ?_, hb⟩
      rw [← HZ.out]
      exact HO1.out
end Go.Proofs.YtdmkkfpbgpijjaaGreat
namespace Go.Proofs.YtdmkkfpbgpijjaaGreat
open Go.RowKit Go.Deep Go.Maps
attribute [local go_sem ↓] Go.wp_at_zero Go.wp_at_succ

theorem apart_types {w : World} {a b : Nat} {C D : Array Value} {t u : TypeId} {f g : Nat × Nat} (h : w.heap[a]? = some (.cells C t f)) (k : w.heap[b]? = some (.cells D u g)) (hne : t ≠ u) : a ≠ b := by
  rintro rfl
  rw [h] at k
  injection k with k
  injection k with _ k _
  exact hne k
theorem rowR_block {w : World} {base : Nat} {e : TypeId} {size : Nat} {v : Value} {n : Nat} {xs : List Value} (h : w.ownsRow base e size v n xs) {k : Nat} (hk : v.ownBlock = some k) : ∃ C fr, w.heap[k]? = some (.cells C e fr) := by
  rcases h.2 with ⟨rfl, _⟩ | ⟨g, cap, cur, rfl, _, hg, _⟩
  · cases hk
  · have e : g = k := by simpa [Value.ownBlock] using hk
    subst e
    exact ⟨cur, _, hg⟩
theorem heap2 (w : World) (o o' : Obj) : ((w.alloc o).alloc o').drew.heap[w.heap.size + 1]? = some o' := by
  have := heap_alloc_new (w.alloc o) o'
  rw [show (w.alloc o).heap.size = w.heap.size + 1 by simp] at this
  exact this
structure NewIn (B : Nat) (w : World) (rb : Nat) (sv : Value) (j : Nat) (vs : List Value) : Prop where
  blk : ∃ C, w.heap[rb]? = some (.cells C 54)
  r0 : w.cell? ⟨rb, 0, none⟩ = some sv
  r1 : w.cell? ⟨rb, 1, none⟩ = some (.slice none 0 0)
  f0 : w.frozen? ⟨rb, 0, none⟩ = false
  f1 : w.frozen? ⟨rb, 1, none⟩ = false
  srow : w.ownsRow B 39 1 sv j vs
  sdat : ∀ v ∈ vs, Owns B w v zeros32
theorem NewIn.step {B : Nat} {w w1 : World} {rb : Nat} {sv : Value} {j : Nat} {vs : List Value} {o2 : Obj} {g cap : Nat} (h : NewIn B w rb sv j vs) (hB : B ≤ w.heap.size) (hrb : rb < w.heap.size)
    (hown : w1.ownsRow B 39 1 (.slice (some ⟨g, 0, none⟩) (j + 1) cap) (j + 1) (vs ++ [.slice (some ⟨w.heap.size, 0, none⟩) 32 32])) (hgrow : ((w.alloc (.cells (madeCells #[Value.int .u8 0] 32) 5)).alloc o2).grownBy w1 sv.ownBlock)
    (hat : sv.ownBlock = some g ∨ g = w.heap.size + 2) : NewIn B (w1.setCell ⟨rb, 0, none⟩ (.slice (some ⟨g, 0, none⟩) (j + 1) cap)) rb (.slice (some ⟨g, 0, none⟩) (j + 1) cap) (j + 1) (vs ++ [.slice (some ⟨w.heap.size, 0, none⟩) 32 32]) := by
  obtain ⟨C0, hb0⟩ := h.blk
  have hs : w.heap.size + 2 ≤ w1.heap.size := by have := hgrow.size; simpa using this
  have hk : ∀ c, c < w.heap.size → sv.ownBlock ≠ some c → w1.heap[c]? = w.heap[c]? := fun c hc hne => by
    rw [hgrow.block c (by simp; omega) (fun e => hne e.symm), Below.heap_alloc _ _ _ (by simp; omega), Below.heap_alloc _ _ _ hc]
  have hsvrb : sv.ownBlock ≠ some rb := fun e => by
    obtain ⟨C, fr, hb⟩ := rowR_block h.srow e
    exact apart_types hb hb0 (by decide) rfl
  have hrb1 := hk rb hrb hsvrb
  have hgrb : g ≠ rb := by
    rcases hat with e | e
    · exact fun x => hsvrb (x ▸ e)
    · omega
  have hn : w1.heap[w.heap.size]? = some (.cells (madeCells #[Value.int .u8 0] 32) 5) := by
    rw [hgrow.block w.heap.size (by simp; omega) (fun e => by have := (h.srow.lt _ e.symm).2; omega), Below.heap_alloc _ _ _ (by simp), heap_alloc_new]
  have k0 : w1.cell? ⟨rb, 0, none⟩ = some sv := (World.cell?_of_block (a := ⟨rb, 0, none⟩) hrb1).trans h.r0
  have hset : ∀ c, c ≠ rb → (w1.setCell ⟨rb, 0, none⟩ (.slice (some ⟨g, 0, none⟩) (j + 1) cap)).heap[c]? = w1.heap[c]? := fun c hc => RowKit.Below.heap_setCell _ _ _ _ hc
  refine ⟨?_, World.cell?_setCell_same _ _ _ k0, ?_, (World.frozen?_setCell _ _ _ _).trans ((World.frozen?_of_block (a := ⟨rb, 0, none⟩) hrb1).trans h.f0), (World.frozen?_setCell _ _ _ _).trans ((World.frozen?_of_block (a := ⟨rb, 1, none⟩) hrb1).trans h.f1), row_kept hown (fun k hk' => ?_), fun v hv => ?_⟩
  · exact ⟨_, heap_setCell_same w1 rb 0 C0 54 (.slice (some ⟨g, 0, none⟩) (j + 1) cap) (hrb1.trans hb0)⟩
  · rw [World.cell?_setCell_other _ _ _ _ (by simp)]
    exact (World.cell?_of_block (a := ⟨rb, 1, none⟩) hrb1).trans h.r1
  · have e : g = k := by simpa [Value.ownBlock] using hk'
    subst e
    exact hset g hgrb
  · rcases List.mem_append.1 hv with hv | hv
    · refine row_kept (h.sdat v hv) (fun k hk' => ?_)
      obtain ⟨Ck, frk, hbk⟩ := rowR_block (h.sdat v hv) hk'
      have hlt := (World.ownsRow.lt (h.sdat v hv) k hk').2
      rw [hset k (apart_types hbk hb0 (by decide))]
      refine hk k hlt (fun e => ?_)
      obtain ⟨C, fr, hb⟩ := rowR_block h.srow e
      exact apart_types hbk hb (by decide) rfl
    · rw [List.mem_singleton] at hv
      subst hv
      refine ⟨rfl, .inr ⟨w.heap.size, 32, _, rfl, hB, (hset _ (by omega)).trans hn, Nat.le_refl _, by simp only [maxLen]; omega, size_madeCells _ _, ?_⟩⟩
      rw [made_one]
      rfl
theorem NewIn.below {B : Nat} {w w' : World} {rb : Nat} {sv : Value} {j : Nat} {vs : List Value} (h : NewIn B w rb sv j vs) (hrb : rb < w.heap.size) (hb : Below w.heap.size w w') : NewIn B w' rb sv j vs := by
  have h0 := hb.block rb hrb
  obtain ⟨C, hbb⟩ := h.blk
  exact ⟨⟨C, h0.trans hbb⟩, (World.cell?_of_block (a := ⟨rb, 0, none⟩) h0).trans h.r0, (World.cell?_of_block (a := ⟨rb, 1, none⟩) h0).trans h.r1, (World.frozen?_of_block (a := ⟨rb, 0, none⟩) h0).trans h.f0, (World.frozen?_of_block (a := ⟨rb, 1, none⟩) h0).trans h.f1, row_kept h.srow (fun k hk => hb.block k (h.srow.lt k hk).2), fun v hv => row_kept (h.sdat v hv) (fun k hk => hb.block k (World.ownsRow.lt (h.sdat v hv) k hk).2)⟩
theorem secAt_new (n i : Nat) (hi : i < n) : secAt (newS n).safe i = zeros32 := by simp [secAt, newS, hi]
def RNewSays (n : Nat) (w : World) (e : Ending) (w' : World) : Prop := ∃ G rb, e = .returned (.tuple #[.pointer (some ⟨rb, 0, none⟩), .int .i64 0]) ∧ RefAt w' G rb n (newS n) ∧ (∀ k, G k → w.heap.size ≤ k) ∧ Below w.heap.size w w'
theorem NewIn.done {B : Nat} {w : World} {rb : Nat} {sv : Value} {n : Nat} {vs : List Value} (h : NewIn B w rb sv n vs) (h1 : 1 ≤ n) (h2 : n ≤ 60) (hrb : rb < w.heap.size) (hB : B ≤ rb) : RefAt w (fun k => B ≤ k ∧ k < w.heap.size) rb n (newS n) := by
  have hl : vs.length = n := by have := h.srow.1; omega
  refine ⟨sv, .slice none 0 0, vs, [], ⟨h.blk, h.r0, h.r1, h.f0, h.f1, ⟨h.srow.1, ?_⟩, World.ownsRow_nil _ _ _ _, fun i v hv => ?_, (fun e he => by cases he), rfl, newS_wf n, h1, h2⟩, ⟨hB, hrb⟩, fun k hk => h.srow.lt k hk, (fun k hk => by cases hk), fun v hv k hk => World.ownsRow.lt (h.sdat v hv) k hk, (fun e he => by cases he), fun k hk => hk.2⟩
  · rcases h.srow.2 with a | ⟨g, cap, cur, a1, a2, a3⟩
    · exact .inl a
    · exact .inr ⟨g, cap, cur, a1, Nat.zero_le _, a3⟩
  · have hi : i < n := by
      rcases Nat.lt_or_ge i vs.length with hlt | hge
      · omega
      · rw [List.getElem?_eq_none hge] at hv; cases hv
    rw [secAt_new n i hi]
    have hv' := h.sdat v (List.mem_of_getElem? hv)
    refine ⟨hv'.1, ?_⟩
    rcases hv'.2 with a | ⟨g, cap, cur, a1, a2, a3⟩
    · exact .inl a
    · exact .inr ⟨g, cap, cur, a1, Nat.zero_le _, a3⟩
set_option maxRecDepth 100000 in
set_option maxHeartbeats 2000000 in
theorem rnew_ok (n : Nat) (w : World) (h1 : 1 ≤ n) (h2 : n ≤ 60) : Calls Tryz.prog 7 #[.int .i64 n] w (RNewSays n w) := by
  have hmk : ∀ w : World, (Instr.makeSlice 39 (.int .i64 32) (.int .i64 32)).run Tryz.prog w = .ok (.slice (some ⟨w.heap.size, 0, none⟩) 32 32) (w.alloc (.cells (madeCells #[Value.int .u8 0] 32) 5)) := by
    obtain ⟨i0, hi, hz0, hz1, hz2⟩ := info_parts info_u8
    intro w
    have := run_make (P := Tryz.prog) w 39 5 i0 _ Tryz.underlying39 hi hz0 .i64 .i64 32 32 (by omega) (by omega) (by rw [hz2]; omega) (by omega)
    rw [hz1] at this
    simpa [Value.cells] using this
  obtain ⟨i0, hi0, hz0, hz1, hz2⟩ := info_parts info_bs
  have d1 : decide ((n : Int) < 1) = false := by simp; omega
  have d2 : decide ((512 : Int) < (n : Int)) = false := by simp; omega
  have hn0 : NewIn w.heap.size (w.alloc (.cells #[.slice none 0 0, .slice none 0 0] 54)) w.heap.size (.slice none 0 0) 0 [] := by
    have hb := heap_alloc_new w (.cells #[.slice none 0 0, .slice none 0 0] 54)
    exact ⟨⟨_, hb⟩, by rw [cell_of_row _ _ _ _ _ _ hb]; rfl, by rw [cell_of_row _ _ _ _ _ _ hb]; rfl, by have := (there_of_cells hb 2 (by simp) 0 (by omega)).2; exact this, by have := (there_of_cells hb 2 (by simp) 1 (by omega)).2; exact this, World.ownsRow_nil _ _ _ _, (fun v hv => by cases hv)⟩
  have HN := Lib.hid hn0
  clear hn0
  go_enter Tryz.func7, Tryz.ntmps7
  go_wp2
  go_loopw [5] (fun k wr => ∃ (j : Nat) (sv : Value) (vs : List Value), j ≤ n ∧ k = .int .i64 j ∧ NewIn w.heap.size wr w.heap.size sv j vs ∧ Below w.heap.size w wr ∧ w.heap.size < wr.heap.size) (fun k _ => n - (intOf k).toNat)
  case atStart => exact ⟨0, _, _, by omega, rfl, HN.out, (Below.refl _ _).alloc (Nat.le_refl _) _, by simp⟩
  case round =>
    obtain ⟨j, sv, vs, hj, rfl, hn, hb, hsz⟩ := hrel
    by_cases hlt : j < n
    · have hlt' : (j : Int) < (n : Int) := by omega
      have r0 := hn.r0
      have r0a : ∀ o : Obj, (wr.alloc o).cell? ⟨w.heap.size, 0, none⟩ = some sv := fun o => (World.cell?_alloc_lt wr o ⟨w.heap.size, 0, none⟩ hsz).trans r0
      have r0b : ∀ o o' : Obj, ((wr.alloc o).alloc o').cell? ⟨w.heap.size, 0, none⟩ = some sv := fun o o' => (World.cell?_alloc_lt (wr.alloc o) o' ⟨w.heap.size, 0, none⟩ (by simp; omega)).trans (r0a o)
      have f0 := hn.f0
      have f0b : ∀ o o' : Obj, ((wr.alloc o).alloc o').frozen? ⟨w.heap.size, 0, none⟩ = false := fun o o' => (World.frozen?_alloc_past _ w.heap.size 0 (by simp; omega)).trans ((World.frozen?_alloc_past _ w.heap.size 0 hsz).trans f0)
      have HNW := Lib.hid hn
      have HB := Lib.hid hb
      have hsr := Lib.hid hn.srow
      have hnsv : some w.heap.size ≠ sv.ownBlock := fun e => by
        obtain ⟨C, fr, hbk⟩ := rowR_block hn.srow e.symm
        obtain ⟨C0, hb0⟩ := hn.blk
        exact apart_types hbk hb0 (by decide) rfl
      have hswb := hb.size
      clear hn hb
      go_wp2
      go_region_law ((refine step_append_lies _ (by rfl) _ _ _ (by rfl) w.heap.size 39 i0 _ 1 24 Tryz.underlying51 hi0 hz0 hz1 hz2 (by rfl) (by omega) sv j vs (by rfl) (by first | exact ((hsr.out.alloc _).alloc _) | exact ((hsr.out.alloc _).alloc _).drew) ⟨wr.heap.size + 1, 0, none⟩ 1 1 [.slice (some ⟨wr.heap.size, 0, none⟩) 32 32] (by rfl) (by rfl) (World.news_of_block (cs := #[.slice (some ⟨wr.heap.size, 0, none⟩) 32 32]) (t := 39) (fr := (0, 0)) (heap2 wr _ _)) (by simp [Value.oneCell']) (by omega) (by simp only [maxLen]; omega) (by omega) (by simp; omega) (wr.heap.size + 2) (by simp) ?_; intro g cap w1 hown hgrow hat hlt1; have k0 : w1.cell? ⟨w.heap.size, 0, none⟩ = some sv := (World.cell?_of_block (a := ⟨w.heap.size, 0, none⟩) (hgrow.block w.heap.size (by simp; omega) hnsv)).trans (r0b _ _); have kf : w1.frozen? ⟨w.heap.size, 0, none⟩ = false := (World.frozen?_of_block (a := ⟨w.heap.size, 0, none⟩) (hgrow.block w.heap.size (by simp; omega) hnsv)).trans (f0b _ _)))
      all_goals
        have hgrow' : ((wr.alloc (.cells (madeCells #[Value.int .u8 0] 32) 5)).alloc (.cells #[.slice (some ⟨wr.heap.size, 0, none⟩) 32 32] 39)).grownBy w1 sv.ownBlock := ⟨hgrow.os, hgrow.tape, hgrow.output, hgrow.size, hgrow.block⟩
        have hst := HNW.out.step (by omega) hsz hown hgrow' hat
        have hbl : Below w.heap.size w (w1.setCell ⟨w.heap.size, 0, none⟩ (.slice (some ⟨g, 0, none⟩) (j + 1) cap)) := (((HB.out.alloc hswb _).alloc (by simp; omega) _).grown hgrow' (by simp; omega) (fun k e => (hsr.out.lt k e).1)).setCell (Nat.le_refl _) _
        have hszz : w.heap.size < (w1.setCell ⟨w.heap.size, 0, none⟩ (.slice (some ⟨g, 0, none⟩) (j + 1) cap)).heap.size := by have := hgrow'.size; simp at this ⊢; omega
        have HST := Lib.hid hst
        have HBL := Lib.hid hbl
        have HSZ := Lib.hid hszz
        clear hst hbl hszz hgrow hgrow' hown k0 kf r0 r0a r0b f0 f0b
        go_wp2
        go_roundw
        case rel => exact ⟨j + 1, _, _, by omega, by go_num, HST.out, HBL.out, HSZ.out⟩
        case measure => simp [intOf]; omega
    · obtain rfl : j = n := by omega
      have HNW := Lib.hid hn
      have HB := Lib.hid hb
      clear hn hb
      go_wp2
      go_ret2
      exact ⟨_, w.heap.size, rfl, HNW.out.done h1 h2 hsz (Nat.le_refl _), fun k hk => hk.1, HB.out⟩
end Go.Proofs.YtdmkkfpbgpijjaaGreat
namespace Go.Proofs.YtdmkkfpbgpijjaaGreat
open Go.RowKit Go.Deep Go.Maps
attribute [local go_sem ↓] Go.wp_at_zero Go.wp_at_succ

def RDoes (G : Nat → Prop) (rb n : Nat) (st : St) (v : Value) (w : World) (e : Ending) (w' : World) : Prop := e = .returned v ∧ RefAt w' (grow G w w') rb n st ∧ Moves G w w'
theorem RefAt.same {w : World} {G : Nat → Prop} {rb n : Nat} {st : St} (h : RefAt w G rb n st) : RefAt w (grow G w w) rb n st := by
  obtain ⟨sv, cv, vs, es, h, g0, g1, g2, g3, g4, g5⟩ := h
  exact ⟨sv, cv, vs, es, h, .inl g0, fun k e => .inl (g1 k e), fun k e => .inl (g2 k e), fun v hv k e => .inl (g3 v hv k e), fun v hv k e => .inl (g4 v hv k e), fun k hk => hk.elim (g5 k) (fun e => e.2)⟩
theorem RefIn.written {G : Nat → Prop} {w w2 w3 : World} {o : Obj} {rb : Nat} {sv cv : Value} {n : Nat} {st : St} {vs : List Value} {es : List En} {i : Nat} {zs : List Int} {v2 : Value} {g cap : Nat}
    (h : RefIn w rb sv cv n st vs es) (hi : i < n) (hz : zs.length = 32) (b2 : Below w.heap.size w w2) (o2 : Owns w.heap.size w2 v2 zs) (hgrow : (w2.alloc o).grownBy w3 cv.ownBlock)
    (hown : w3.ownsRow 0 102 2 (.slice (some ⟨g, 0, none⟩) (es.length + 1) cap) (es.length + 1) (es.flatMap enC ++ enC ((i, zs), v2))) (hat : cv.ownBlock = some g ∨ g = w2.heap.size + 1)
    (g0 : G rb) (g1 : ∀ k, sv.ownBlock = some k → G k) (g2 : ∀ k, cv.ownBlock = some k → G k) (g3 : ∀ v ∈ vs, ∀ k, v.ownBlock = some k → G k) (g4 : ∀ e ∈ es, ∀ k, e.2.ownBlock = some k → G k) (g5 : ∀ k, G k → k < w.heap.size) (v : Value) :
    RDoes G rb n (writeS st i zs) v w (.returned v) (w3.setCell ⟨rb, 1, none⟩ (.slice (some ⟨g, 0, none⟩) (es.length + 1) cap)) := by
  have hR := h.below b2
  obtain ⟨C0, hb0⟩ := hR.blk
  have s2 := b2.size
  have hs : w2.heap.size + 1 ≤ w3.heap.size := by have := hgrow.size; simpa using this
  have hrb := hR.lt
  generalize hv : (Value.slice (some ⟨g, 0, none⟩) (es.length + 1) cap) = v' at *
  have hvb : v'.ownBlock = some g := by rw [← hv]; rfl
  have hk : ∀ c, c < w2.heap.size → cv.ownBlock ≠ some c → w3.heap[c]? = w2.heap[c]? := fun c hc hne => by
    rw [hgrow.block c (by simp; omega) (fun e => hne e.symm), Below.heap_alloc _ _ _ hc]
  have hcb : ∀ {c : Nat} {C : Array Value} {t : TypeId} {fr : Nat × Nat}, w2.heap[c]? = some (.cells C t fr) → t ≠ 102 → cv.ownBlock ≠ some c := fun {c C t fr} hc ht e => by
    obtain ⟨D, fr', hd⟩ := rowR_block hR.crow e
    exact apart_types hc hd ht rfl
  have hrb1 := hk rb hrb (hcb hb0 (by decide))
  have hgrb : g ≠ rb := by
    rcases hat with e | e
    · exact fun x => hcb hb0 (by decide) (x ▸ e)
    · omega
  have hset : ∀ c, c ≠ rb → (w3.setCell ⟨rb, 1, none⟩ v').heap[c]? = w3.heap[c]? := fun c hc => RowKit.Below.heap_setCell _ _ _ _ hc
  have k1 : w3.cell? ⟨rb, 1, none⟩ = some cv := (World.cell?_of_block (a := ⟨rb, 1, none⟩) hrb1).trans hR.r1
  have hall : ∀ {c : Nat} {C : Array Value} {t : TypeId} {fr : Nat × Nat}, w2.heap[c]? = some (.cells C t fr) → t ≠ 102 → t ≠ 54 → (w3.setCell ⟨rb, 1, none⟩ v').heap[c]? = w2.heap[c]? := fun {c C t fr} hc h1 h2 => by
    have hlt : c < w2.heap.size := (Array.getElem?_eq_some_iff.1 hc).1
    rw [hset c (apart_types hc hb0 h2)]
    exact hk c hlt (hcb hc h1)
  have m1 : Moves G w w2 := moves_of_below b2
  have m2 : Moves G w w3 := (m1.trans (moves_alloc G w2 o) (fun _ e => .inl e)).trans (moves_of_grown (F := G) hgrow (fun k e => g2 k e)) (fun _ e => .inl e)
  have m3 : Moves G w (w3.setCell ⟨rb, 1, none⟩ v') := m2.trans (moves_setCell (fun k => k = rb) w3 ⟨rb, 1, none⟩ v' rfl) (fun k e => .inl (e ▸ g0))
  have hsz : w3.heap.size = (w3.setCell ⟨rb, 1, none⟩ v').heap.size := by simp
  refine ⟨rfl, ⟨sv, v', vs, es ++ [((i, zs), v2)], ⟨⟨_, heap_setCell_same w3 rb 1 C0 54 v' (hrb1.trans hb0)⟩, ?_, World.cell?_setCell_same _ _ _ k1, (World.frozen?_setCell _ _ _ _).trans ((World.frozen?_of_block (a := ⟨rb, 0, none⟩) hrb1).trans hR.f0), (World.frozen?_setCell _ _ _ _).trans ((World.frozen?_of_block (a := ⟨rb, 1, none⟩) hrb1).trans hR.f1), ?_, ?_, ?_, ?_, ?_, h.wf.write hi hz, h.n1, h.n2⟩, .inl g0, fun k e => .inl (g1 k e), ?_, fun v hv k e => .inl (g3 v hv k e), ?_, ?_⟩, m3⟩
  · rw [World.cell?_setCell_other _ _ _ _ (by simp)]
    exact (World.cell?_of_block (a := ⟨rb, 0, none⟩) hrb1).trans hR.r0
  · refine row_kept hR.srow (fun k e => ?_)
    obtain ⟨D, fr, hd⟩ := rowR_block hR.srow e
    exact hall hd (by decide) (by decide)
  · have e1 : (es ++ [((i, zs), v2)]).length = es.length + 1 := by simp
    have e2 : (es ++ [((i, zs), v2)]).flatMap enC = es.flatMap enC ++ enC ((i, zs), v2) := by simp
    rw [e1, e2]
    refine row_kept hown (fun k e => ?_)
    rw [hvb] at e
    injection e with e
    rw [← e]
    exact hset g hgrb
  · intro j v hv
    refine row_kept (hR.sdat j v hv) (fun k e => ?_)
    obtain ⟨D, fr, hd⟩ := rowR_block (hR.sdat j v hv) e
    exact hall hd (by decide) (by decide)
  · intro x hx
    rcases List.mem_append.1 hx with hx | hx
    · refine row_kept (hR.cdat x hx) (fun k e => ?_)
      obtain ⟨D, fr, hd⟩ := rowR_block (hR.cdat x hx) e
      exact hall hd (by decide) (by decide)
    · rw [List.mem_singleton] at hx
      subst hx
      have h0 : Owns 0 w2 v2 zs := by
        refine ⟨o2.1, ?_⟩
        rcases o2.2 with a | ⟨g, cap, cur, a1, a2, a3⟩
        · exact .inl a
        · exact .inr ⟨g, cap, cur, a1, Nat.zero_le _, a3⟩
      refine row_kept h0 (fun k e => ?_)
      obtain ⟨D, fr, hd⟩ := rowR_block h0 e
      exact hall hd (by decide) (by decide)
  · simp [writeS, ← h.same]
  · intro k e
    rw [hvb] at e
    injection e with e
    subst e
    rcases hat with e | e
    · exact .inl (g2 g e)
    · have := (hown.lt g hvb).2
      exact .inr ⟨by omega, by omega⟩
  · intro x hx k e
    rcases List.mem_append.1 hx with hx | hx
    · exact .inl (g4 x hx k e)
    · rw [List.mem_singleton] at hx
      subst hx
      have := World.ownsRow.lt o2 k e
      exact .inr ⟨this.1, by omega⟩
  · rintro k (e | e)
    · have := g5 k e; omega
    · exact e.2
set_option maxRecDepth 100000 in
set_option maxHeartbeats 2000000 in
theorem rwrite_ok (G : Nat → Prop) (rb n i : Nat) (st : St) (A : Option Addr) (c : Nat) (zs : List Int) (w : World) (h : RefAt w G rb n st) (hi : i < n) (hz : zs.length = 32) (hg : Good A c zs w) (hc : st.cache.length ≤ 999) :
    Calls Tryz.prog 20 #[.pointer (some ⟨rb, 0, none⟩), .int .i64 i, .slice A 32 c] w (RDoes G rb n (writeS st i zs) (.int .i64 0) w) := by
  obtain ⟨sv, cv, vs, es, h, g0, g1, g2, g3, g4, g5⟩ := h
  obtain ⟨sb, cap0, rfl, hsb⟩ := sv_shape h
  obtain ⟨i0, hi0, hz0, hz1, hz2⟩ := info_parts info_rw
  have r0 := h.r0
  have r1 := h.r1
  have hrb := h.lt
  have hel : es.length ≤ 999 := by have : es.length = st.cache.length := by rw [← h.same, List.length_map]
                                   omega
  have d1 : decide ((i : Int) < 0) = false := by simp
  have d2 : decide ((n : Int) ≤ (i : Int)) = false := by simp; omega
  have d3 : decide (n ≤ i) = false := by simp; omega
  have i1 : (i : Int) < (n : Int) := by omega
  have hne : some rb ≠ cv.ownBlock := fun e => by
    obtain ⟨D, fr, hd⟩ := rowR_block h.crow e.symm
    obtain ⟨C0, hb0⟩ := h.blk
    exact apart_types hb0 hd (by decide) rfl
  have HZ := Lib.hid hz
  have HG := Lib.hid hg
  have HW := Lib.hid h
  have HF := Lib.hid (⟨g0, g1, g2, g3, g4, g5⟩ : G rb ∧ (∀ k, (Value.slice (some ⟨sb, 0, none⟩) n cap0).ownBlock = some k → G k) ∧ (∀ k, cv.ownBlock = some k → G k) ∧ (∀ v ∈ vs, ∀ k, v.ownBlock = some k → G k) ∧ (∀ e ∈ es, ∀ k, e.2.ownBlock = some k → G k) ∧ ∀ k, G k → k < w.heap.size)
  clear hz hg h g0 g1 g2 g3 g4 g5
  go_enter Tryz.func20, Tryz.ntmps20
  go_wp2
  go_region_law (first
    | (refine step_append_lies _ (by rfl) _ _ _ (by rfl) 0 102 i0 _ 2 32 Tryz.underlying52 hi0 hz0 hz1 hz2 (by rfl) (by omega) cv es.length (es.flatMap enC) (by rfl) (HCR.out.alloc _) ⟨w2.heap.size, 0, none⟩ 1 1 [.int .i64 (i : Int), .slice (some ⟨d, 0, none⟩) 32 capd] (by rfl) (by rfl) (World.news_of_block (cs := #[.int .i64 (i : Int), .slice (some ⟨d, 0, none⟩) 32 capd]) (t := 102) (fr := (0, 0)) (heap_alloc_new w2 _)) (by simp [Value.oneCell']) (by omega) (by simp only [maxLen]; omega) (by omega) (by omega) (w2.heap.size + 1) (by simp) ?_; intro g cap w3 hown hgrow hat hlt1; have k1 : w3.cell? ⟨rb, 1, none⟩ = some cv := (World.cell?_of_block (a := ⟨rb, 1, none⟩) (hgrow.block rb (by simp; omega) hne)).trans (r1c _); have kf : w3.frozen? ⟨rb, 1, none⟩ = false := (World.frozen?_of_block (a := ⟨rb, 1, none⟩) (hgrow.block rb (by simp; omega) hne)).trans (f1c _))
    | (go_simp; go_at_call 51; refine (copyB A zs c 32 HZ.out (by omega) _ (HG.out.drewN 1)).mono ?_; rintro e w2 ⟨v2, rfl, o2, b2⟩; obtain ⟨d, capd, e2, _, hdl⟩ := World.ownsRow.form o2 (by rw [HZ.out]; omega); subst e2; rw [HZ.out]; have B2 : Hid (Below w.heap.size w w2) := Lib.hid ⟨b2.os, b2.tape, b2.output, b2.size, b2.block⟩; have s2 : w.heap.size ≤ w2.heap.size := b2.size; have HR2 := Lib.hid (HW.out.below B2.out); have HCR := Lib.hid HR2.out.crow; have r1b : w2.cell? ⟨rb, 1, none⟩ = some cv := HR2.out.r1; have r1c : ∀ o : Obj, (w2.alloc o).cell? ⟨rb, 1, none⟩ = some cv := (fun o => (World.cell?_alloc_lt w2 o ⟨rb, 1, none⟩ (Nat.lt_of_lt_of_le hrb s2)).trans r1b); have f1c : ∀ o : Obj, (w2.alloc o).frozen? ⟨rb, 1, none⟩ = false := (fun o => (World.frozen?_alloc_past _ rb 1 (Nat.lt_of_lt_of_le hrb s2)).trans HR2.out.f1); have O2 := Lib.hid o2; clear o2 b2))
  all_goals
    have hO : Owns w.heap.size w2 (.slice (some ⟨d, 0, none⟩) 32 capd) zs := by
      have := O2.out
      rw [HZ.out] at this
      exact this
    obtain ⟨g0, g1, g2, g3, g4, g5⟩ := HF.out
    have hfin := HW.out.written (v2 := .slice (some ⟨d, 0, none⟩) 32 capd) hi HZ.out B2.out hO hgrow hown hat g0 g1 g2 g3 g4 g5 (.int .i64 0)
    have HFIN := Lib.hid hfin
    clear hfin hown hgrow g0 g1 g2 g3 g4 g5 hO r1b r1c f1c k1 kf
    go_wp2
    go_ret
    exact HFIN.out
set_option maxHeartbeats 400000 in
theorem rwrite_range (G : Nat → Prop) (rb n : Nat) (i : Int) (st : St) (A : Option Addr) (l c : Nat) (w : World) (h : RefAt w G rb n st) (hg : goodAt n i = false) :
    Calls Tryz.prog 20 #[.pointer (some ⟨rb, 0, none⟩), .int .i64 i, .slice A l c] w (RDoes G rb n st (.int .i64 11) w) := by
  have hs := Lib.hid h.same
  obtain ⟨sv, cv, vs, es, h, _⟩ := h
  obtain ⟨sb, cap, rfl, _⟩ := sv_shape h
  have r0 := h.r0
  by_cases h0 : i < 0
  · have d1 : decide (i < 0) = true := by simpa using h0
    go_enter Tryz.func20, Tryz.ntmps20
    go_wp2
    go_ret
    exact ⟨rfl, hs.out, Moves.refl _ _⟩
  · have d1 : decide (i < 0) = false := by simpa using h0
    have d2 : decide ((n : Int) ≤ i) = true := by simp [goodAt] at hg; simp; omega
    have HG := Lib.hid hg
    clear hg
    go_enter Tryz.func20, Tryz.ntmps20
    go_wp2
    go_ret
    exact ⟨rfl, hs.out, Moves.refl _ _⟩
set_option maxHeartbeats 400000 in
theorem rwrite_form (G : Nat → Prop) (rb n : Nat) (i : Int) (st : St) (A : Option Addr) (l c : Nat) (w : World) (h : RefAt w G rb n st) (hg : goodAt n i = true) (hl : l ≠ 32) :
    Calls Tryz.prog 20 #[.pointer (some ⟨rb, 0, none⟩), .int .i64 i, .slice A l c] w (RDoes G rb n st (.int .i64 10) w) := by
  have hs := Lib.hid h.same
  obtain ⟨sv, cv, vs, es, h, _⟩ := h
  obtain ⟨sb, cap, rfl, _⟩ := sv_shape h
  have r0 := h.r0
  have hgi : 0 ≤ i ∧ i < n := by simpa [goodAt] using hg
  have d1 : decide (i < 0) = false := by simp; omega
  have d2 : decide ((n : Int) ≤ i) = false := by simp; omega
  have hne : ((l : Int) != 32) = true := by simp; omega
  have HG := Lib.hid hg
  clear hg hgi
  go_enter Tryz.func20, Tryz.ntmps20
  go_wp2
  go_ret
  exact ⟨rfl, hs.out, Moves.refl _ _⟩
theorem rwrite_any (G : Nat → Prop) (rb n : Nat) (i : Int) (st st' : St) (A : Option Addr) (l c : Nat) (zs : List Int) (q : Int) (w : World) (h : RefAt w G rb n st) (hl : zs.length = l) (hg : Good A c zs w) (hc : st.cache.length ≤ 999) (hq : writeE n i l = q) (hst : writeT n st i zs = st') :
    Calls Tryz.prog 20 #[.pointer (some ⟨rb, 0, none⟩), .int .i64 i, .slice A l c] w (RDoes G rb n st' (.int .i64 q) w) := by
  subst hq hst
  unfold writeE writeT
  cases hgo : goodAt n i with
  | false => exact rwrite_range G rb n i st A l c w h hgo
  | true =>
    by_cases h32 : l = 32
    · subst h32
      simp only [hl, if_true]
      have hi : 0 ≤ i ∧ i < n := by simpa [goodAt] using hgo
      have := rwrite_ok G rb n i.toNat st A c zs w h (by omega) hl hg hc
      rwa [Int.toNat_of_nonneg hi.1] at this
    · simp only [hl, h32, if_true, if_false]
      exact rwrite_form G rb n i st A l c w h hgo h32
end Go.Proofs.YtdmkkfpbgpijjaaGreat
