/- The document's own disk (concordatref03) in memory: RefAt; Read, Image. -/
import Derived.Test.YtckkgcogkcljeaaDo
namespace Go.Proofs.Ytckkgcogkcljeaa
open Go.RowKit Go.Deep Go.Maps

theorem info_rw : (Try.prog.info? 65).map (fun i => (i.zero, i.size, i.bytes)) = some (some (.agg #[.int .i64 0, .slice none 0 0]), 2, 32) := by kernel_rfl
/-- A write in the cache, with where its bytes are. -/
abbrev En := (Nat × List Int) × Value
def enC (e : En) : List Value := [.int .i64 e.1.1, e.2]
structure RefIn (w : World) (rb : Nat) (sv cv : Value) (n : Nat) (st : St) (vs : List Value) (es : List En) : Prop where
  blk : ∃ C, w.heap[rb]? = some (.cells C 45)
  r0 : w.cell? ⟨rb, 0, none⟩ = some sv
  r1 : w.cell? ⟨rb, 1, none⟩ = some cv
  f0 : w.frozen? ⟨rb, 0, none⟩ = false
  f1 : w.frozen? ⟨rb, 1, none⟩ = false
  srow : w.ownsRow 0 32 1 sv n vs
  crow : w.ownsRow 0 65 2 cv es.length (es.flatMap enC)
  sdat : ∀ (i : Nat) v, vs[i]? = some v → Owns 0 w v (secAt st.safe i)
  cdat : ∀ e ∈ es, Owns 0 w e.2 e.1.2
  same : es.map (·.1) = st.cache
  wf : Wf n st
  n1 : 1 ≤ n
  n2 : n ≤ 40
theorem RefIn.lt {w : World} {rb : Nat} {sv cv : Value} {n : Nat} {st : St} {vs : List Value} {es : List En} (h : RefIn w rb sv cv n st vs es) : rb < w.heap.size := World.block_lt_of_cell? w ⟨rb, 0, none⟩ h.r0
theorem RefIn.kept {w w' : World} {rb : Nat} {sv cv : Value} {n : Nat} {st : St} {vs : List Value} {es : List En} (h : RefIn w rb sv cv n st vs es)
    (h0 : w'.heap[rb]? = w.heap[rb]?) (h1 : ∀ k, sv.ownBlock = some k → w'.heap[k]? = w.heap[k]?) (h2 : ∀ k, cv.ownBlock = some k → w'.heap[k]? = w.heap[k]?) (h3 : ∀ v ∈ vs, ∀ k, v.ownBlock = some k → w'.heap[k]? = w.heap[k]?) (h4 : ∀ e ∈ es, ∀ k, e.2.ownBlock = some k → w'.heap[k]? = w.heap[k]?) : RefIn w' rb sv cv n st vs es :=
  { blk := by obtain ⟨C, hb⟩ := h.blk; exact ⟨C, h0.trans hb⟩
    r0 := (World.cell?_of_block (a := ⟨rb, 0, none⟩) h0).trans h.r0, r1 := (World.cell?_of_block (a := ⟨rb, 1, none⟩) h0).trans h.r1, f0 := (World.frozen?_of_block (a := ⟨rb, 0, none⟩) h0).trans h.f0, f1 := (World.frozen?_of_block (a := ⟨rb, 1, none⟩) h0).trans h.f1
    srow := row_kept h.srow h1, crow := row_kept h.crow h2, sdat := fun i v hv => row_kept (h.sdat i v hv) (h3 v (List.mem_of_getElem? hv)), cdat := fun e he => row_kept (h.cdat e he) (h4 e he), same := h.same, wf := h.wf, n1 := h.n1, n2 := h.n2 }
theorem RefIn.below {w w' : World} {rb : Nat} {sv cv : Value} {n : Nat} {st : St} {vs : List Value} {es : List En} (h : RefIn w rb sv cv n st vs es) (hb : Below w.heap.size w w') : RefIn w' rb sv cv n st vs es :=
  h.kept (hb.block _ h.lt) (fun k hk => hb.block k (h.srow.lt k hk).2) (fun k hk => hb.block k (h.crow.lt k hk).2) (fun v hv k hk => by
    obtain ⟨i, hi⟩ := List.getElem?_of_mem hv
    exact hb.block k (World.ownsRow.lt (h.sdat i v hi) k hk).2) (fun e he k hk => hb.block k (World.ownsRow.lt (h.cdat e he) k hk).2)
def RefAt (w : World) (G : Nat → Prop) (rb n : Nat) (st : St) : Prop := ∃ sv cv vs es, RefIn w rb sv cv n st vs es ∧ G rb ∧ (∀ k, sv.ownBlock = some k → G k) ∧ (∀ k, cv.ownBlock = some k → G k) ∧ (∀ v ∈ vs, ∀ k, v.ownBlock = some k → G k) ∧ (∀ e ∈ es, ∀ k, e.2.ownBlock = some k → G k) ∧ ∀ k, G k → k < w.heap.size
theorem RefAt.lt {w : World} {G : Nat → Prop} {rb n : Nat} {st : St} (h : RefAt w G rb n st) : ∀ k, G k → k < w.heap.size := by
  obtain ⟨_, _, _, _, _, _, _, _, _, _, h⟩ := h; exact h
theorem RefAt.moves {w w' : World} {G F : Nat → Prop} {rb n : Nat} {st : St} (h : RefAt w G rb n st) (hm : Moves F w w') (hd : ∀ k, G k → ¬ F k) : RefAt w' G rb n st := by
  obtain ⟨sv, cv, vs, es, h, g0, g1, g2, g3, g4, g5⟩ := h
  have hk : ∀ k, G k → w'.heap[k]? = w.heap[k]? := fun k hk => hm.block k (g5 k hk) (hd k hk)
  exact ⟨sv, cv, vs, es, h.kept (hk _ g0) (fun k e => hk k (g1 k e)) (fun k e => hk k (g2 k e)) (fun v hv k e => hk k (g3 v hv k e)) (fun v hv k e => hk k (g4 v hv k e)), g0, g1, g2, g3, g4, fun k e => Nat.lt_of_lt_of_le (g5 k e) hm.size⟩
theorem RefAt.below {w w' : World} {G : Nat → Prop} {rb n : Nat} {st : St} (h : RefAt w G rb n st) (hb : Below w.heap.size w w') : RefAt w' G rb n st := h.moves (moves_of_below (F := fun _ => False) hb) (fun _ _ e => e)

/-! ### what is read -/
theorem vs_len {w : World} {rb : Nat} {sv cv : Value} {n : Nat} {st : St} {vs : List Value} {es : List En} (h : RefIn w rb sv cv n st vs es) : vs.length = n := by have := h.srow.1; omega
/-- The i-th sector's list. -/
theorem sec_cell {w : World} {rb : Nat} {sv cv : Value} {n : Nat} {st : St} {vs : List Value} {es : List En} (h : RefIn w rb sv cv n st vs es) {i : Nat} (hi : i < n) : ∃ sb cap v, sv = .slice (some ⟨sb, 0, none⟩) n cap ∧ sb < w.heap.size ∧ vs[i]? = some v ∧ w.cell? ⟨sb, i, none⟩ = some v ∧ w.frozen? ⟨sb, i, none⟩ = false ∧ Owns 0 w v (secAt st.safe i) ∧ (secAt st.safe i).length = 32 := by
  have hl := vs_len h
  obtain ⟨sb, cap, rfl, _, hlt⟩ := h.srow.form (by have := h.n1; omega)
  have hv : vs[i]? = some vs[i] := List.getElem?_eq_getElem (by omega)
  have hc := h.srow.cells (g := sb) rfl i vs[i] hv
  rw [Go.WideShapes.add_plain, Nat.zero_add] at hc
  refine ⟨sb, cap, vs[i], rfl, hlt, hv, hc, ?_, h.sdat i _ hv, secAt_len h.wf.len h.wf.secs hi⟩
  rcases h.srow.2 with ⟨h', _⟩ | ⟨g', cap', cur, h', hb, hg, _⟩
  · simp at h'
  · simp only [Value.slice.injEq, Option.some.injEq, Addr.mk.injEq, and_true, true_and] at h'
    obtain ⟨rfl, _⟩ := h'
    simp [World.frozen?, hg]
/-- The j-th write's cells. -/
theorem en_cells {w : World} {cv : Value} {es : List En} (h : w.ownsRow 0 65 2 cv es.length (es.flatMap enC)) {j : Nat} {e : En} (hj : es[j]? = some e) : ∃ cb cap, cv = .slice (some ⟨cb, 0, none⟩) es.length cap ∧ cb < w.heap.size ∧ w.cell? ⟨cb, j * 2, none⟩ = some (.int .i64 e.1.1) ∧ w.cell? ⟨cb, j * 2 + 1, none⟩ = some e.2 := by
  have hjl : j < es.length := by
    rcases Nat.lt_or_ge j es.length with h | h
    · exact h
    · rw [List.getElem?_eq_none h] at hj; cases hj
  obtain ⟨cb, cap, rfl, _, hlt⟩ := h.form (by omega)
  have h2 : ∀ x ∈ es, (enC x).length = 2 := fun x _ => rfl
  have c0 := h.cells (g := cb) rfl (j * 2 + 0) (.int .i64 e.1.1) (by rw [flat_at enC 2 es h2 j e hj 0 (by omega)]; rfl)
  have c1 := h.cells (g := cb) rfl (j * 2 + 1) e.2 (by rw [flat_at enC 2 es h2 j e hj 1 (by omega)]; rfl)
  rw [Go.WideShapes.add_plain, Nat.zero_add] at c0 c1
  exact ⟨cb, cap, rfl, hlt, c0, c1⟩
def GivesR (zs : List Int) (q : Int) (w : World) (e : Ending) (w' : World) : Prop := ∃ A c, e = .returned (.tuple #[.slice A zs.length c, .int .i64 q]) ∧ Good A c zs w' ∧ Below w.heap.size w w'
set_option maxRecDepth 100000 in
set_option maxHeartbeats 1000000 in
theorem rread_ok (G : Nat → Prop) (rb n i : Nat) (st : St) (zs : List Int) (w : World) (h : RefAt w G rb n st) (hi : i < n) (hz : nowAt st i = zs) (hc : st.cache.length ≤ 1000) :
    Calls Try.prog 22 #[.pointer (some ⟨rb, 0, none⟩), .int .i64 i] w (GivesR zs 0 w) := by
  obtain ⟨sv, cv, vs, es, h, _⟩ := h
  obtain ⟨sb, cap, v, rfl, hsb, hv, c0, _, hov, h32⟩ := sec_cell h hi
  have r0 := h.r0
  have r1 := h.r1
  have hlen : es.length = st.cache.length := by rw [← h.same, List.length_map]
  obtain ⟨cA, cC, rfl, _⟩ := row_shape h.crow
  have hel : es.length ≤ 1000 := by omega
  have i1 : (i : Int) < (n : Int) := by omega
  have d1 : decide ((i : Int) < 0) = false := by simp
  have d2 : decide ((n : Int) ≤ (i : Int)) = false := by simp; omega
  have d3 : decide (n ≤ i) = false := by simp; omega
  have hfin : nowAt st i = zs := hz
  have HZ := Lib.hid hz
  have HV := Lib.hid hov
  have H32 := Lib.hid h32
  have HLE := Lib.hid hlen
  clear hz hfin hov hv h32 hlen
  go_enter Try.func22, Try.ntmps22
  go_wp2
  go_loop [6, 7] (fun o k => ∃ (j : Nat) (ys : List Int), j ≤ es.length ∧ k = .int .i64 j ∧ Owns 0 w o ys ∧ ys = (lastIn i (st.cache.take j)).getD (secAt st.safe i) ∧ ys.length = 32) (fun _ k => es.length - (intOf k).toNat)
  case atStart => exact ⟨0, _, by omega, rfl, HV.out, rfl, H32.out⟩
  case round =>
    obtain ⟨j, ys, hj, rfl, ho, hy, hyl⟩ := hrel
    have HO := Lib.hid ho
    have HY := Lib.hid hy
    have HYL := Lib.hid hyl
    clear ho hy hyl
    by_cases hlt : j < es.length
    · have hlt' : (j : Int) < (es.length : Int) := by omega
      have hej : es[j]? = some es[j] := List.getElem?_eq_getElem hlt
      obtain ⟨cb, cap2, e2, hcb, k0, k1⟩ := en_cells h.crow hej
      simp only [Value.slice.injEq, true_and] at e2
      obtain ⟨rfl, rfl⟩ := e2
      have hmem := List.mem_of_getElem? hej
      have hcj : st.cache[j]? = some es[j].1 := by rw [← h.same, List.getElem?_map, hej]; rfl
      have hjc : j < st.cache.length := by rw [← HLE.out]; exact hlt
      have hcj2 : st.cache[j] = es[j].1 := by rw [List.getElem?_eq_getElem hjc] at hcj; injection hcj
      have hta : st.cache.take (j + 1) = st.cache.take j ++ [es[j].1] := by rw [List.take_succ_eq_append_getElem hjc, hcj2]
      have HTA := Lib.hid hta
      have hd := h.cdat _ hmem
      have hdl : (es[j].1.2).length = 32 := h.wf.has _ (List.mem_of_getElem? hcj)
      have HD := Lib.hid hd
      have HDL := Lib.hid hdl
      clear hej hmem hcj hcj2 hta hd hdl hjc
      generalize es[j] = en at *
      obtain ⟨⟨ea, ez⟩, ev⟩ := en
      simp only at k0 k1
      by_cases hea : ea = i
      · have e1 : ((ea : Int) == (i : Int)) = true := by simp [hea]
        have e2 : (ea == i) = true := by simpa using hea
        have HEA := Lib.hid hea
        clear hea
        go_wp2
        go_round
        case rel => exact ⟨j + 1, ez, by omega, by go_num, HD.out, by rw [HTA.out, lastIn_snoc, if_pos HEA.out]; rfl, HDL.out⟩
        case measure => simp [intOf]; omega
      · have e1 : ((ea : Int) == (i : Int)) = false := by simp; omega
        have e2 : (ea == i) = false := by simpa using hea
        have HEA := Lib.hid hea
        clear hea
        go_wp2
        go_round
        case rel => exact ⟨j + 1, ys, by omega, by go_num, HO.out, by rw [HTA.out, lastIn_snoc, if_neg HEA.out]; exact HY.out, HYL.out⟩
        case measure => simp [intOf]; omega
    · obtain rfl : j = es.length := by omega
      obtain ⟨A9, c9, e9, g9⟩ := HO.out.good
      subst e9
      have hfin : ys = zs := by
        rw [← HZ.out, HY.out, List.take_of_length_le (by rw [HLE.out]; exact Nat.le_refl _)]
        exact (carry_at st.cache i st.safe (by rw [h.wf.len]; exact hi)).symm
      have HFIN := Lib.hid hfin
      have G9 := Lib.hid g9
      clear hfin g9
      go_wp2_with fail
      refine (copyB A9 ys c9 ys.length rfl (by rw [HYL.out]; omega) w G9.out).mono ?_
      rintro e w2 ⟨v2, rfl, o2, b2⟩
      obtain ⟨A2, c2, rfl, g2⟩ := o2.good
      rw [HFIN.out] at g2 ⊢
      go_wp2
      go_ret2
      exact ⟨A2, c2, rfl, g2, b2⟩
end Go.Proofs.Ytckkgcogkcljeaa
