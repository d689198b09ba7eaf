/- The document's own disk: Crash, Flush. -/
import Derived.Test.YtdmkkfpbgpijjaaGreatWbj
import Derived.Deep.RegionHeld3
import Derived.Deep.DeepCutAuto
import Derived.Deep.CutRange
namespace Go.Proofs.YtdmkkfpbgpijjaaGreat
open Go.RowKit Go.Deep Go.Maps
attribute [local go_sem ↓] Go.wp_at_zero Go.wp_at_succ

theorem owns_zero {B : Nat} {w : World} {v : Value} {zs : List Int} (h : Owns B w v zs) : Owns 0 w v zs := by
  refine ⟨h.1, ?_⟩
  rcases h.2 with a | ⟨g, cap, cur, a1, a2, a3⟩
  · exact .inl a
  · exact .inr ⟨g, cap, cur, a1, Nat.zero_le _, a3⟩
/-- A sector's list takes another's place. -/
theorem RefIn.stored {w : World} {rb sb cap : Nat} {cv : Value} {n : Nat} {st : St} {vs : List Value} {es : List En} {i : Nat} {v : Value} {zs : List Int} (h : RefIn w rb (.slice (some ⟨sb, 0, none⟩) n cap) cv n st vs es) (ho : Owns 0 w v zs) (hz : zs.length = 32) :
    RefIn (w.setCell ⟨sb, i, none⟩ v) rb (.slice (some ⟨sb, 0, none⟩) n cap) cv n { st with safe := st.safe.set i zs } (vs.set i v) es := by
  obtain ⟨C0, hb0⟩ := h.blk
  obtain ⟨Cs, frs, hbs⟩ := rowR_block h.srow (k := sb) rfl
  have hset : ∀ c, c ≠ sb → (w.setCell ⟨sb, i, none⟩ v).heap[c]? = w.heap[c]? := fun c hc => RowKit.Below.heap_setCell _ _ _ _ hc
  have hall : ∀ {c : Nat} {C : Array Value} {t : TypeId} {fr : Nat × Nat}, w.heap[c]? = some (.cells C t fr) → t ≠ 39 → (w.setCell ⟨sb, i, none⟩ v).heap[c]? = w.heap[c]? := fun {c C t fr} hc h1 => hset c (apart_types hc hbs h1)
  have h0 := hall hb0 (by decide)
  have hown : ∀ {u : Value} {ys : List Int}, Owns 0 w u ys → Owns 0 (w.setCell ⟨sb, i, none⟩ v) u ys := fun {u ys} hu => row_kept hu (fun k e => by
    obtain ⟨D, fr, hd⟩ := rowR_block hu e
    exact hall hd (by decide))
  have hl := vs_len h
  refine ⟨⟨C0, h0.trans hb0⟩, (World.cell?_of_block (a := ⟨rb, 0, none⟩) h0).trans h.r0, (World.cell?_of_block (a := ⟨rb, 1, none⟩) h0).trans h.r1, (World.frozen?_of_block (a := ⟨rb, 0, none⟩) h0).trans h.f0, (World.frozen?_of_block (a := ⟨rb, 1, none⟩) h0).trans h.f1, (World.ownsRow.stored h.srow i v).1, row_kept h.crow (fun k e => ?_), fun j u hu => ?_, fun e he => hown (h.cdat e he), h.same, ?_, h.n1, h.n2⟩
  · obtain ⟨D, fr, hd⟩ := rowR_block h.crow e
    exact hall hd (by decide)
  · have hjn : j < n := by
      rcases Nat.lt_or_ge j (vs.set i v).length with h1 | h1
      · simpa [hl] using h1
      · rw [List.getElem?_eq_none h1] at hu; cases hu
    rw [secAt_set _ _ _ _ (by rw [h.wf.len]; exact hjn)]
    by_cases e : i = j
    · subst e
      rw [List.getElem?_set_self (by omega)] at hu
      injection hu with hu
      subst hu
      rw [if_pos rfl]
      exact hown ho
    · rw [List.getElem?_set_ne e] at hu
      rw [if_neg e]
      exact hown (h.sdat j u hu)
  · exact ⟨by simpa using h.wf.len, fun z hz' => by
      rcases List.mem_or_eq_of_mem_set hz' with h1 | h1
      · exact h.wf.secs z h1
      · rw [h1]; exact hz, h.wf.at_, h.wf.has⟩
theorem RefIn.cleared {w : World} {rb : Nat} {sv cv : Value} {n : Nat} {st : St} {vs : List Value} {es : List En} (h : RefIn w rb sv cv n st vs es) : RefIn (w.setCell ⟨rb, 1, none⟩ (.slice none 0 0)) rb sv (.slice none 0 0) n { st with cache := [] } vs [] := by
  obtain ⟨C0, hb0⟩ := h.blk
  have hset : ∀ c, c ≠ rb → (w.setCell ⟨rb, 1, none⟩ (.slice none 0 0)).heap[c]? = w.heap[c]? := fun c hc => RowKit.Below.heap_setCell _ _ _ _ hc
  refine ⟨⟨_, heap_setCell_same w rb 1 C0 54 (.slice none 0 0) hb0⟩, ?_, World.cell?_setCell_same _ _ _ h.r1, (World.frozen?_setCell _ _ _ _).trans h.f0, (World.frozen?_setCell _ _ _ _).trans h.f1, row_kept h.srow (fun k e => ?_), World.ownsRow_nil _ _ _ _, fun j u hu => row_kept (h.sdat j u hu) (fun k e => ?_), (fun e he => by cases he), rfl, h.wf.empty, h.n1, h.n2⟩
  · rw [World.cell?_setCell_other _ _ _ _ (by simp)]; exact h.r0
  · obtain ⟨D, fr, hd⟩ := rowR_block h.srow e
    exact hset k (apart_types hd hb0 (by decide))
  · obtain ⟨D, fr, hd⟩ := rowR_block (h.sdat j u hu) e
    exact hset k (apart_types hd hb0 (by decide))
theorem rdoes_mk {G : Nat → Prop} {w W : World} {rb : Nat} {sv cv : Value} {n : Nat} {st st' : St} {vs : List Value} {es : List En} {v : Value} (h : RefIn W rb sv cv n st vs es) (hst : { st with cache := [] } = st') (hm : Moves G w W) (g0 : G rb) (g1 : ∀ k, sv.ownBlock = some k → G k) (g3 : ∀ u ∈ vs, ∀ k, u.ownBlock = some k → G k ∨ w.heap.size ≤ k) (g5 : ∀ k, G k → k < w.heap.size) : RDoes G rb n st' v w (.returned v) (W.setCell ⟨rb, 1, none⟩ (.slice none 0 0)) := by
  subst hst
  have m2 : Moves G w (W.setCell ⟨rb, 1, none⟩ (.slice none 0 0)) := hm.trans (moves_setCell (fun k => k = rb) W ⟨rb, 1, none⟩ _ rfl) (fun k e => .inl (e ▸ g0))
  have hc := h.cleared
  refine ⟨rfl, ⟨sv, _, vs, [], hc, .inl g0, fun k e => .inl (g1 k e), (fun k e => by cases e), fun u hu k e => (g3 u hu k e).elim .inl (fun x => .inr ⟨x, ?_⟩), (fun e he => by cases he), ?_⟩, m2⟩
  · obtain ⟨i, hi⟩ := List.getElem?_of_mem hu
    exact (World.ownsRow.lt (hc.sdat i u hi) k e).2
  · rintro k (e | e)
    · exact Nat.lt_of_lt_of_le (g5 k e) m2.size
    · exact e.2
set_option maxRecDepth 100000 in
set_option maxHeartbeats 4000000 in
theorem rcrash_all (G : Nat → Prop) (rb n : Nat) (st : St) (keep tear : Int) (w : World) (h : RefAt w G rb n st) (hc : st.cache.length ≤ 1000) :
    Calls Tryz.prog 17 #[.pointer (some ⟨rb, 0, none⟩), .int .i64 keep, .int .i64 tear] w (RDoes G rb n (crashS st keep tear) (.tuple #[]) w) := by
  obtain ⟨kk', htear⟩ : ∃ kk', tearOf tear = kk' := ⟨_, rfl⟩
  have hk31 : kk' ≤ 31 := by rw [← htear]; unfold tearOf; omega
  have HT := Lib.hid htear
  obtain ⟨sv, cv, vs, es, h, g0, g1, g2, g3, g4, g5⟩ := h
  obtain ⟨sb, cap0, rfl, hsb⟩ := sv_shape h
  have hlen : es.length = st.cache.length := by rw [← h.same, List.length_map]
  have HLE := Lib.hid hlen
  have hel : es.length ≤ 1000 := by omega
  obtain ⟨cA, cC, rfl, _⟩ := row_shape h.crow
  have HF := Lib.hid (⟨g0, g1, g2, g3, g4, g5⟩ : G rb ∧ (∀ k, (Value.slice (some ⟨sb, 0, none⟩) n cap0).ownBlock = some k → G k) ∧ (∀ k, (Value.slice cA es.length cC).ownBlock = some k → G k) ∧ (∀ v ∈ vs, ∀ k, v.ownBlock = some k → G k) ∧ (∀ e ∈ es, ∀ k, e.2.ownBlock = some k → G k) ∧ ∀ k, G k → k < w.heap.size)
  have hGs := g1 sb rfl
  have HW := Lib.hid h
  clear htear hlen h g1 g2 g3 g4 g5
  go_enter Tryz.func17, Tryz.ntmps17
  go_upto_region 0 with fail
  go_cut [2] from 8 to 10 (fun s wx => s = .int .i64 (kk' : Int) ∧ w = wx)
  case first =>
    have ht := HT.out
    unfold tearOf at ht
    by_cases t0 : tear < 0
    · have e0 : (0 : Int) = (kk' : Int) := by omega
      go_wp2
      go_meet
      exact ⟨by rw [← e0], rfl⟩
    · by_cases t1 : 31 < tear
      · have e0 : (31 : Int) = (kk' : Int) := by omega
        go_wp2
        go_meet
        exact ⟨by rw [← e0], rfl⟩
      · have e0 : tear = (kk' : Int) := by omega
        go_wp2
        go_meet
        exact ⟨by rw [← e0], rfl⟩
  case rest =>
  obtain ⟨rfl, rfl⟩ := hcut
  go_wp2
  go_loopw [6] (fun k wr => ∃ (j : Nat) (us : List Value), j ≤ es.length ∧ k = .int .i64 j ∧ j ≤ keep.toNat ∧ RefIn wr rb (.slice (some ⟨sb, 0, none⟩) n cap0) (.slice cA es.length cC) n ⟨carry st.safe (st.cache.take j), st.cache⟩ us es ∧ (∀ u ∈ us, ∀ k, u.ownBlock = some k → G k) ∧ Moves G w wr) (fun k _ => es.length - (intOf k).toNat)
  case atStart => exact ⟨0, vs, by omega, rfl, by omega, HW.out, HF.out.2.2.2.1, Moves.refl _ _⟩
  case round =>
    obtain ⟨j, us, hj, rfl, hjk, hr, hus, hm⟩ := hrel
    have r0 := hr.r0
    have r1 := hr.r1
    have f1 := hr.f1
    have hrb := hr.lt
    by_cases hlt : j < es.length
    · have hlt' : (j : Int) < (es.length : Int) := by omega
      have hej : es[j]? = some es[j] := List.getElem?_eq_getElem hlt
      obtain ⟨cb, cap2, e2, hcb, k0, k1⟩ := en_cells hr.crow hej
      simp only [Value.slice.injEq, true_and] at e2
      obtain ⟨rfl, rfl⟩ := e2
      have hmem := List.mem_of_getElem? hej
      have hcj : st.cache[j]? = some es[j].1 := by rw [← HW.out.same, List.getElem?_map, hej]; rfl
      have hjc : j < st.cache.length := by rw [← HLE.out]; exact hlt
      have hcj2 : st.cache[j] = es[j].1 := by rw [List.getElem?_eq_getElem hjc] at hcj; injection hcj
      have hta : st.cache.take (j + 1) = st.cache.take j ++ [es[j].1] := by rw [List.take_succ_eq_append_getElem hjc, hcj2]
      have HTA := Lib.hid hta
      have HCJ := Lib.hid hcj
      have hd := hr.cdat _ hmem
      have hdl : (es[j].1.2).length = 32 := hr.wf.has _ (List.mem_of_getElem? hcj)
      have hea : es[j].1.1 < n := hr.wf.at_ _ (List.mem_of_getElem? hcj)
      have hGe := HF.out.2.2.2.2.1 _ hmem
      clear hej hmem hcj hcj2 hta hjc
      generalize es[j] = en at *
      obtain ⟨⟨ea, ez⟩, ev⟩ := en
      simp only at k0 k1 hd hdl hea hGe
      obtain ⟨dd, dcap, rfl, _, hdd⟩ := World.ownsRow.form hd (by omega)
      rw [hdl] at k1
      have HD := Lib.hid hd
      have HDL := Lib.hid hdl
      have HR := Lib.hid hr
      have HUS := Lib.hid hus
      have HM := Lib.hid hm
      clear hd hdl hr hus hm
      have hx0 : (0 : Int) ≤ (ea : Int) := by omega
      have hx1 : (ea : Int) < (n : Int) := by omega
      have hal : Below wr.heap.size wr (wr.alloc (.cells #[.int .i64 (ea : Int), .slice (some ⟨dd, 0, none⟩) 32 dcap] 102)) := (Below.refl _ _).alloc (Nat.le_refl _) _
      have c0 : (wr.alloc (.cells #[.int .i64 (ea : Int), .slice (some ⟨dd, 0, none⟩) 32 dcap] 102)).cell? ⟨wr.heap.size, 0, none⟩ = some (.int .i64 (ea : Int)) := by rw [cell_of_row _ _ _ _ _ _ (heap_alloc_new wr _)]; rfl
      have c1 : (wr.alloc (.cells #[.int .i64 (ea : Int), .slice (some ⟨dd, 0, none⟩) 32 dcap] 102)).cell? ⟨wr.heap.size, 1, none⟩ = some (.slice (some ⟨dd, 0, none⟩) 32 dcap) := by rw [cell_of_row _ _ _ _ _ _ (heap_alloc_new wr _)]; rfl
      have hzW : (wr.alloc (.cells #[.int .i64 (ea : Int), .slice (some ⟨dd, 0, none⟩) 32 dcap] 102)).heap.size = wr.heap.size + 1 := by simp
      by_cases hjk2 : (j : Int) < keep
      · have kk1 : decide ((j : Int) < keep) = true := by simpa using hjk2
        go_wp2
        generalize (wr.alloc (.cells #[.int .i64 (ea : Int), .slice (some ⟨dd, 0, none⟩) 32 dcap] 102)) = W1 at *
        have hR1 := HR.out.below hal
        have q0 : W1.cell? ⟨rb, 0, none⟩ = some (.slice (some ⟨sb, 0, none⟩) n cap0) := hR1.r0
        obtain ⟨sb2, cap2, v0, e2, hsb1, hv0, q1, q2, _, _⟩ := sec_cell hR1 hea
        simp only [Value.slice.injEq, Option.some.injEq, Addr.mk.injEq, and_true, true_and] at e2
        obtain ⟨rfl, rfl⟩ := e2
        have hne1 : rb ≠ sb := by
          obtain ⟨C, hb0⟩ := hR1.blk
          obtain ⟨D, fr, hb1⟩ := rowR_block hR1.srow (k := sb) rfl
          exact apart_types hb0 hb1 (by decide)
        have hne2 : wr.heap.size ≠ sb := by
          have := (HR.out.srow.lt sb rfl).2
          omega
        have hfin := hR1.stored (i := ea) (row_kept HD.out (fun k e => hal.block k (World.ownsRow.lt HD.out k e).2)) HDL.out
        have HFIN := Lib.hid hfin
        have HAL := Lib.hid hal
        clear hfin hR1 hv0 hal
        rw [HDL.out] at HFIN
        go_region_held3 (fun w' => w'.cell? ⟨rb, 0, none⟩ = some (.slice (some ⟨sb, 0, none⟩) n cap0) ∧ w'.cell? ⟨wr.heap.size, 0, none⟩ = some (.int .i64 (ea : Int)) ∧ w'.cell? ⟨wr.heap.size, 1, none⟩ = some (.slice (some ⟨dd, 0, none⟩) 32 dcap))
          (first | exact ⟨q0, c0, c1⟩ | exact ⟨(World.cell?_of_block (a := ⟨rb, 0, none⟩) (RowKit.Below.heap_setCell _ _ _ _ hne1)).trans q0, (World.cell?_of_block (a := ⟨wr.heap.size, 0, none⟩) (RowKit.Below.heap_setCell _ _ _ _ hne2)).trans c0, (World.cell?_of_block (a := ⟨wr.heap.size, 1, none⟩) (RowKit.Below.heap_setCell _ _ _ _ hne2)).trans c1⟩) (fail)
        have hin : ∀ u ∈ us.set ea (.slice (some ⟨dd, 0, none⟩) 32 dcap), ∀ k, u.ownBlock = some k → G k := fun u hu k e => by
          rcases List.mem_or_eq_of_mem_set hu with h1 | h1
          · exact HUS.out u h1 k e
          · subst h1; exact hGe k e
        have hmv : Moves G w (W1.setCell ⟨sb, ea, none⟩ (.slice (some ⟨dd, 0, none⟩) 32 dcap)).drew := ((HM.out.trans (moves_of_below (F := G) HAL.out) (fun _ e => .inl e)).trans (moves_setCell (fun k => k = sb) W1 ⟨sb, ea, none⟩ _ rfl) (fun k e => .inl (e ▸ hGs))).trans (moves_drewN G _ 1) (fun _ e => .inl e)
        have hRf : RefIn (W1.setCell ⟨sb, ea, none⟩ (.slice (some ⟨dd, 0, none⟩) 32 dcap)).drew rb (.slice (some ⟨sb, 0, none⟩) n cap0) (.slice (some ⟨cb, 0, none⟩) es.length cC) n ⟨carry st.safe (st.cache.take (j + 1)), st.cache⟩ (us.set ea (.slice (some ⟨dd, 0, none⟩) 32 dcap)) es := by
          rw [HTA.out, carry_snoc]
          exact HFIN.out.below (below_drewN (Below.refl _ _) 1)
        have HIN := Lib.hid hin
        have HMV := Lib.hid hmv
        have HRF := Lib.hid hRf
        clear hin hmv hRf HFIN q0 q1 q2 c0 c1
        generalize (W1.setCell ⟨sb, ea, none⟩ (.slice (some ⟨dd, 0, none⟩) 32 dcap)).drew = W9 at *
        go_wp2
        go_roundw
        case rel => exact ⟨j + 1, _, by omega, by go_num, by omega, HRF.out, HIN.out, HMV.out⟩
        case measure => simp [intOf]; omega
      · have kk1 : decide ((j : Int) < keep) = false := by simpa using hjk2
        have htest : (((j : Int) == 0) = true) ∨ (((j : Int) == 0) = false ∧ ((j : Int) == keep) = true) := by
          rcases Nat.eq_zero_or_pos j with h0 | h0
          · exact .inl (by simp [h0])
          · refine .inr ⟨?_, ?_⟩
            · have : (j : Int) ≠ 0 := by omega
              simpa using this
            · have : (j : Int) = keep := by omega
              simpa using this
        have hkj : keptOf keep st.cache.length = j := by unfold keptOf; rw [← HLE.out]; omega
        have HKJ := Lib.hid hkj
        clear hkj
        have y1 : (0 : Int) ≤ (kk' : Int) := by omega
        have y2 : (kk' : Int) ≤ 31 := by omega
        have y3 : (kk' : Int) ≤ 32 := by omega
        have y4 : ¬ (32 = kk') := by omega
        obtain ⟨sb2, cap2, v0, e2, hsb1, hv0, q1, q2, hov, hol⟩ := sec_cell (HR.out.below hal) hea
        simp only [Value.slice.injEq, Option.some.injEq, Addr.mk.injEq, and_true, true_and] at e2
        obtain ⟨rfl, rfl⟩ := e2
        obtain ⟨ob, oc, rfl, _, hob⟩ := World.ownsRow.form hov (by rw [hol]; omega)
        rw [hol] at q1
        have q0 : (wr.alloc (.cells #[.int .i64 (ea : Int), .slice (some ⟨dd, 0, none⟩) 32 dcap] 102)).cell? ⟨rb, 0, none⟩ = some (.slice (some ⟨sb, 0, none⟩) n cap0) := (HR.out.below hal).r0
        have hdcap : 32 ≤ dcap := by
          obtain ⟨A0, c0, e0, g0⟩ := HD.out.good
          simp only [Value.slice.injEq, true_and] at e0
          obtain ⟨_, rfl⟩ := e0
          have := g0.2.1
          rw [HDL.out] at this
          exact this
        have hocap : 32 ≤ oc := by
          obtain ⟨A0, c0, e0, g0⟩ := hov.good
          simp only [Value.slice.injEq, true_and] at e0
          obtain ⟨_, rfl⟩ := e0
          have := g0.2.1
          rw [hol] at this
          exact this
        have y5 : (kk' : Int) ≤ (dcap : Int) := by omega
        have y6 : (kk' : Int) ≤ (oc : Int) := by omega
        have y7 : ¬ (oc = kk') := by omega
        have hol2 : (secAt (carry st.safe (st.cache.take j)) ea).length = 32 := hol
        have hgC : Good (some ⟨dd, 0, none⟩) dcap (ez.take kk') (wr.alloc (.cells #[.int .i64 (ea : Int), .slice (some ⟨dd, 0, none⟩) 32 dcap] 102)) := by
          obtain ⟨A0, c0, e0, g0⟩ := HD.out.good
          simp only [Value.slice.injEq, true_and] at e0
          obtain ⟨rfl, rfl⟩ := e0
          exact (g0.take kk').below hal
        have hgO : Good (some ⟨ob, kk', none⟩) (oc - kk') ((secAt (carry st.safe (st.cache.take j)) ea).drop kk') (wr.alloc (.cells #[.int .i64 (ea : Int), .slice (some ⟨dd, 0, none⟩) 32 dcap] 102)) := by
          obtain ⟨A0, c0, e0, g0⟩ := hov.good
          simp only [Value.slice.injEq, true_and] at e0
          obtain ⟨rfl, rfl⟩ := e0
          have := g0.drop kk' (by show kk' ≤ (secAt (carry st.safe (st.cache.take j)) ea).length; omega)
          rwa [Nat.zero_add] at this
        have hlt1 : (ez.take kk').length = kk' := by rw [List.length_take]; have := HDL.out; omega
        have hlt2 : ((secAt (carry st.safe (st.cache.take j)) ea).drop kk').length = (32 - kk') := by rw [List.length_drop]; omega
        have hR1 := HR.out.below hal
        have hne1 : rb ≠ sb := by
          obtain ⟨C, hb0⟩ := hR1.blk
          obtain ⟨D, fr, hb1⟩ := rowR_block hR1.srow (k := sb) rfl
          exact apart_types hb0 hb1 (by decide)
        have hsbr : sb < wr.heap.size := (HR.out.srow.lt sb rfl).2
        have hne2 : wr.heap.size ≠ sb := by omega
        have hst : (⟨(carry st.safe (st.cache.take j)).set ea (ez.take kk' ++ (secAt (carry st.safe (st.cache.take j)) ea).drop kk'), []⟩ : St) = crashS st keep tear := by
          rw [crash_some_eq st keep tear j (ea, ez) HKJ.out HCJ.out, HT.out]
          rfl
        have HST := Lib.hid hst
        have HLT1 := Lib.hid hlt1
        have HLT2 := Lib.hid hlt2
        have HGC := Lib.hid hgC
        have HGO := Lib.hid hgO
        have HR1 := Lib.hid hR1
        have HAL := Lib.hid hal
        have smw := HM.out.size
        obtain ⟨i0, hi0, hz0, hz1, hz2⟩ := info_parts info_u8
        clear hst hlt1 hlt2 hgC hgO hR1 hal hov hv0
        generalize secAt (carry st.safe (st.cache.take j)) ea = old at *
        go_upto_region 7 with fail
        go_cut [45] (fun s wx => s = .bool true ∧ (wr.alloc (.cells #[.int .i64 (ea : Int), .slice (some ⟨dd, 0, none⟩) 32 dcap] 102)) = wx)
        case first =>
          rcases htest with e1 | ⟨e1, e2⟩
          · go_wp2
            go_meet
            exact ⟨rfl, rfl⟩
          · go_wp2
            go_meet
            exact ⟨rfl, rfl⟩
        case rest =>
          obtain ⟨rfl, rfl⟩ := hcut
          go_wp2
          generalize (wr.alloc (.cells #[.int .i64 (ea : Int), .slice (some ⟨dd, 0, none⟩) 32 dcap] 102)) = W1 at *
          refine wp_region_noPanic ?_
          refine wp_region_held_drew (S := fun w' => w'.cell? ⟨rb, 0, none⟩ = some (.slice (some ⟨sb, 0, none⟩) n cap0) ∧ w'.cell? ⟨wr.heap.size, 0, none⟩ = some (.int .i64 (ea : Int)) ∧ w'.cell? ⟨wr.heap.size, 1, none⟩ = some (.slice (some ⟨dd, 0, none⟩) 32 dcap)) (by kernel_rfl) ⟨q0, c0, c1⟩ (fun hHeld => ?_)
          refine wpAnyH_take (i := 0) (oi := ⟨some 46, _, _, _, _, _⟩) (v := ?v1) rfl (by kernel_rfl) (by kernel_rfl) (by kernel_rfl) (fun _ _ _ h => h) (Or.inl ⟨by rfl, ?y1⟩) (by assumption) ?r1
          case y1 =>
            intro w hSw; obtain ⟨hS0, hS1, hS2⟩ := hSw
            go_simp
            try with_reducible rfl
          simp only [Act.put, List.setIfInBounds_toArray, List.set_cons_zero, List.set_cons_succ]
          refine wpAnyH_take (i := 1) (oi := ⟨some 47, _, _, _, _, _⟩) (v := ?v2) rfl (by kernel_rfl) (by kernel_rfl) (by kernel_rfl) (fun _ _ _ h => h) (Or.inl ⟨by rfl, ?y2⟩) (by assumption) ?r2
          case y2 =>
            intro w hSw; obtain ⟨hS0, hS1, hS2⟩ := hSw
            go_simp
            try with_reducible rfl
          simp only [Act.put, List.setIfInBounds_toArray, List.set_cons_zero, List.set_cons_succ]
          refine wpAnyH_take (i := 2) (oi := ⟨some 48, _, _, _, _, _⟩) (v := ?v3) rfl (by kernel_rfl) (by kernel_rfl) (by kernel_rfl) (fun _ _ _ h => h) (Or.inl ⟨by rfl, ?y3⟩) (by assumption) ?r3
          case y3 =>
            intro w hSw; obtain ⟨hS0, hS1, hS2⟩ := hSw
            go_simp
            try with_reducible rfl
          simp only [Act.put, List.setIfInBounds_toArray, List.set_cons_zero, List.set_cons_succ]
          refine wpAnyH_take (i := 3) (oi := ⟨some 49, _, _, _, _, _⟩) (v := ?v4) rfl (by kernel_rfl) (by kernel_rfl) (by kernel_rfl) (fun _ _ _ h => h) (Or.inl ⟨by rfl, ?y4⟩) (by assumption) ?r4
          case y4 =>
            intro w hSw; obtain ⟨hS0, hS1, hS2⟩ := hSw
            go_simp
            try with_reducible rfl
          simp only [Act.put, List.setIfInBounds_toArray, List.set_cons_zero, List.set_cons_succ]
          refine wpAnyH_take (i := 4) (oi := ⟨some 50, _, _, _, _, _⟩) (v := ?v5) rfl (by kernel_rfl) (by kernel_rfl) (by kernel_rfl) (fun _ _ _ h => h) (Or.inl ⟨by rfl, ?y5⟩) (by assumption) ?r5
          case y5 =>
            intro w hSw; obtain ⟨hS0, hS1, hS2⟩ := hSw
            go_simp
            try with_reducible rfl
          simp only [Act.put, List.setIfInBounds_toArray, List.set_cons_zero, List.set_cons_succ]
          refine wpAnyH_take (i := 5) (oi := ⟨some 51, _, _, _, _, _⟩) (v := ?v6) rfl (by kernel_rfl) (by kernel_rfl) (by kernel_rfl) (fun _ _ _ h => h) (Or.inl ⟨by rfl, ?y6⟩) (by assumption) ?r6
          case y6 =>
            intro w hSw; obtain ⟨hS0, hS1, hS2⟩ := hSw
            go_simp
            try with_reducible rfl
          simp only [Act.put, List.setIfInBounds_toArray, List.set_cons_zero, List.set_cons_succ]
          refine wpAnyH_take (i := 6) (oi := ⟨some 52, _, _, _, _, _⟩) (v := ?v7) rfl (by kernel_rfl) (by kernel_rfl) (by kernel_rfl) (fun _ _ _ h => h) (Or.inl ⟨by rfl, ?y7⟩) (by assumption) ?r7
          case y7 =>
            intro w hSw; obtain ⟨hS0, hS1, hS2⟩ := hSw
            go_simp
            try with_reducible rfl
          simp only [Act.put, List.setIfInBounds_toArray, List.set_cons_zero, List.set_cons_succ]
          refine wpAnyH_take (i := 7) (oi := ⟨some 53, _, _, _, _, _⟩) (v := ?v8) rfl (by kernel_rfl) (by kernel_rfl) (by kernel_rfl) (fun _ _ _ h => h) (Or.inl ⟨by rfl, ?y8⟩) (by assumption) ?r8
          case y8 =>
            intro w hSw; obtain ⟨hS0, hS1, hS2⟩ := hSw
            go_simp
            try with_reducible rfl
          simp only [Act.put, List.setIfInBounds_toArray, List.set_cons_zero, List.set_cons_succ]
          refine wpAnyH_take (i := 8) (oi := ⟨some 54, _, _, _, _, _⟩) (v := ?v9) rfl (by kernel_rfl) (by kernel_rfl) (by kernel_rfl) (fun _ _ _ h => h) (Or.inl ⟨by rfl, ?y9⟩) (by assumption) ?r9
          case y9 =>
            intro w hSw; obtain ⟨hS0, hS1, hS2⟩ := hSw
            go_simp
            try with_reducible rfl
          simp only [Act.put, List.setIfInBounds_toArray, List.set_cons_zero, List.set_cons_succ]
          refine wpAnyH_take (i := 9) (oi := ⟨some 55, _, _, _, _, _⟩) (v := ?v10) rfl (by kernel_rfl) (by kernel_rfl) (by kernel_rfl) (fun _ _ _ h => h) (Or.inl ⟨by rfl, ?y10⟩) (by assumption) ?r10
          case y10 =>
            intro w hSw; obtain ⟨hS0, hS1, hS2⟩ := hSw
            go_simp
            try with_reducible rfl
          simp only [Act.put, List.setIfInBounds_toArray, List.set_cons_zero, List.set_cons_succ]
          refine wpAnyH_take (i := 11) (oi := ⟨some 57, _, _, _, _, _⟩) (v := ?v11) rfl (by kernel_rfl) (by kernel_rfl) (by kernel_rfl) (fun _ _ _ h => h) (Or.inl ⟨by rfl, ?y11⟩) (by assumption) ?r11
          case y11 =>
            intro w hSw; obtain ⟨hS0, hS1, hS2⟩ := hSw
            go_simp
            try with_reducible rfl
          simp only [Act.put, List.setIfInBounds_toArray, List.set_cons_zero, List.set_cons_succ]
          refine wpAnyH_take (i := 12) (oi := ⟨some 58, _, _, _, _, _⟩) (v := ?v12) rfl (by kernel_rfl) (by kernel_rfl) (by kernel_rfl) (fun _ _ _ h => h) (Or.inl ⟨by rfl, ?y12⟩) (by assumption) ?r12
          case y12 =>
            intro w hSw; obtain ⟨hS0, hS1, hS2⟩ := hSw
            go_simp
            try with_reducible rfl
          simp only [Act.put, List.setIfInBounds_toArray, List.set_cons_zero, List.set_cons_succ]
          refine wpAnyH_take (i := 13) (oi := ⟨some 59, _, _, _, _, _⟩) (v := ?v13) rfl (by kernel_rfl) (by kernel_rfl) (by kernel_rfl) (fun _ _ _ h => h) (Or.inl ⟨by rfl, ?y13⟩) (by assumption) ?r13
          case y13 =>
            intro w hSw; obtain ⟨hS0, hS1, hS2⟩ := hSw
            go_simp
            try with_reducible rfl
          simp only [Act.put, List.setIfInBounds_toArray, List.set_cons_zero, List.set_cons_succ]
          refine wpAnyH_take (i := 14) (oi := ⟨some 60, _, _, _, _, _⟩) (v := ?v14) rfl (by kernel_rfl) (by kernel_rfl) (by kernel_rfl) (fun _ _ _ h => h) (Or.inl ⟨by rfl, ?y14⟩) (by assumption) ?r14
          case y14 =>
            intro w hSw; obtain ⟨hS0, hS1, hS2⟩ := hSw
            go_simp
            try with_reducible rfl
          simp only [Act.put, List.setIfInBounds_toArray, List.set_cons_zero, List.set_cons_succ]
          refine wpAnyH_take (i := 15) (oi := ⟨some 61, _, _, _, _, _⟩) (v := ?v15) rfl (by kernel_rfl) (by kernel_rfl) (by kernel_rfl) (fun _ _ _ h => h) (Or.inl ⟨by rfl, ?y15⟩) (by assumption) ?r15
          case y15 =>
            intro w hSw; obtain ⟨hS0, hS1, hS2⟩ := hSw
            go_simp
            try with_reducible rfl
          simp only [Act.put, List.setIfInBounds_toArray, List.set_cons_zero, List.set_cons_succ]
          refine wpAnyH_take (i := 16) (oi := ⟨some 62, _, _, _, _, _⟩) (v := ?v16) rfl (by kernel_rfl) (by kernel_rfl) (by kernel_rfl) (fun _ _ _ h => h) (Or.inl ⟨by rfl, ?y16⟩) (by assumption) ?r16
          case y16 =>
            intro w hSw; obtain ⟨hS0, hS1, hS2⟩ := hSw
            go_simp
            try with_reducible rfl
          simp only [Act.put, List.setIfInBounds_toArray, List.set_cons_zero, List.set_cons_succ]
          refine wpAnyH_take (i := 17) (oi := ⟨some 63, _, _, _, _, _⟩) (v := ?v17) rfl (by kernel_rfl) (by kernel_rfl) (by kernel_rfl) (fun _ _ _ h => h) (Or.inl ⟨by rfl, ?y17⟩) (by assumption) ?r17
          case y17 =>
            intro w hSw; obtain ⟨hS0, hS1, hS2⟩ := hSw
            go_simp
            try with_reducible rfl
          simp only [Act.put, List.setIfInBounds_toArray, List.set_cons_zero, List.set_cons_succ]
          refine wpAnyH_take (i := 19) (oi := ⟨some 65, _, _, _, _, _⟩) (v := ?v18) rfl (by kernel_rfl) (by kernel_rfl) (by kernel_rfl) (fun _ _ _ h => h) (Or.inl ⟨by rfl, ?y18⟩) (by assumption) ?r18
          case y18 =>
            intro w hSw; obtain ⟨hS0, hS1, hS2⟩ := hSw
            go_simp
            try with_reducible rfl
          simp only [Act.put, List.setIfInBounds_toArray, List.set_cons_zero, List.set_cons_succ]
          refine wpAnyH_ready (rs := [10, 18]) (by kernel_rfl) (by simp) ?_
          refine AllReadyH.cons (o := ⟨some 56, _, _, _, _, _⟩) rfl (fun K hK => ?_) (AllReadyH.cons (o := ⟨some 64, _, _, _, _, _⟩) rfl (fun K hK => ?_) AllReadyH.nil)
          · go_simp
            refine (copyB (some ⟨dd, 0, none⟩) (ez.take kk') dcap kk' HLT1.out (by omega) _ (HGC.out.drewN 1)).mono ?_
            rintro e w2 ⟨v2, rfl, o2, b2⟩
            have B2 : Hid (Below W1.heap.size W1 w2) := Lib.hid ⟨b2.os, b2.tape, b2.output, b2.size, b2.block⟩
            have s2 : W1.heap.size ≤ w2.heap.size := b2.size
            have HO2 : Hid (Owns W1.heap.size w2 v2 (ez.take kk')) := Lib.hid o2
            have q1b : w2.cell? ⟨sb, ea, none⟩ = some (.slice (some ⟨ob, 0, none⟩) 32 oc) := (B2.out.cell (p := ⟨sb, ea, none⟩) hsb1).trans q1
            clear o2 b2
            simp only []
            refine hK.out _ _ ?_ (fun hHeld => ?_)
            · exact ⟨(B2.out.cell (p := ⟨rb, 0, none⟩) (by show rb < W1.heap.size; omega)).trans q0, (B2.out.cell (p := ⟨wr.heap.size, 0, none⟩) (by show wr.heap.size < W1.heap.size; omega)).trans c0, (B2.out.cell (p := ⟨wr.heap.size, 1, none⟩) (by show wr.heap.size < W1.heap.size; omega)).trans c1⟩
            clear hK K
            try simp only [Act.put, List.setIfInBounds_toArray, List.set_cons_zero, List.set_cons_succ]
            refine wpAnyH_ready (rs := [18]) (by kernel_rfl) (by simp) ?_
            refine AllReadyH.cons (o := ⟨some 64, _, _, _, _, _⟩) rfl (fun K hK => ?_) AllReadyH.nil
            go_simp
            refine hK.out _ _ ?_ (fun hHeld => ?_)
            · exact hHeld
            clear hK K
            try simp only [Act.put, List.setIfInBounds_toArray, List.set_cons_zero, List.set_cons_succ]
            refine wpAnyH_take (i := 20) (oi := ⟨some 66, _, _, _, _, _⟩) (v := ?v19) rfl (by kernel_rfl) (by kernel_rfl) (by kernel_rfl) (fun _ _ _ h => h) (Or.inl ⟨by rfl, ?y19⟩) (by assumption) ?r19
            case y19 =>
              intro w hSw; obtain ⟨hS0, hS1, hS2⟩ := hSw
              go_simp
              try with_reducible rfl
            simp only [Act.put, List.setIfInBounds_toArray, List.set_cons_zero, List.set_cons_succ]
            refine wpAnyH_ready (rs := [21]) (by kernel_rfl) (by simp) ?_
            refine AllReadyH.cons (o := ⟨some 67, _, _, _, _, _⟩) rfl (fun K hK => ?_) AllReadyH.nil
            have hO2 : w2.ownsRow W1.heap.size 5 1 v2 kk' ((ez.take kk').map (Value.int .u8)) := by
              have := HO2.out
              unfold Owns at this
              rwa [HLT1.out] at this
            refine step_append_lies _ (by rfl) _ _ _ (by rfl) W1.heap.size 5 i0 (.int .u8 0) 1 1 Tryz.underlying39 hi0 hz0 hz1 hz2 (by rfl) (by omega) v2 kk' ((ez.take kk').map (Value.int .u8)) (by rfl) hO2 ⟨ob, kk', none⟩ (32 - kk') (oc - kk') ((old.drop kk').map (Value.int .u8)) (by rfl) (by have := HLT2.out; rw [List.length_map]; omega) (cells_of_good rfl (HGO.out.below B2.out)) (one_u8 _) (by omega) (by simp only [maxLen]; omega) (by omega) s2 w2.heap.size rfl ?_
            intro g cap3 w3 hown hgrow hat hlt3
            have hvb : ∀ k, k < W1.heap.size → some k ≠ v2.ownBlock := fun k hk e => by have := (hO2.lt k e.symm).1; omega
            have HB3 : Hid (Below W1.heap.size W1 w3) := Lib.hid (B2.out.grown hgrow s2 (fun k e => (hO2.lt k e).1))
            have q1c : w3.cell? ⟨sb, ea, none⟩ = some (.slice (some ⟨ob, 0, none⟩) 32 oc) := (HB3.out.cell (p := ⟨sb, ea, none⟩) hsb1).trans q1
            have q2c : w3.frozen? ⟨sb, ea, none⟩ = false := (HB3.out.frozen (p := ⟨sb, ea, none⟩) hsb1).trans q2
            refine hK.out _ _ ?_ (fun hHeld => ?_)
            · exact ⟨(HB3.out.cell (p := ⟨rb, 0, none⟩) (by show rb < W1.heap.size; omega)).trans q0, (HB3.out.cell (p := ⟨wr.heap.size, 0, none⟩) (by show wr.heap.size < W1.heap.size; omega)).trans c0, (HB3.out.cell (p := ⟨wr.heap.size, 1, none⟩) (by show wr.heap.size < W1.heap.size; omega)).trans c1⟩
            clear hK K
            try simp only [Act.put, List.setIfInBounds_toArray, List.set_cons_zero, List.set_cons_succ]
            refine wpAnyH_take (i := 22) (oi := ⟨some 68, _, _, _, _, _⟩) (v := ?v20) rfl (by kernel_rfl) (by kernel_rfl) (by kernel_rfl) (fun _ _ _ h => h) (Or.inl ⟨by rfl, ?y20⟩) (by assumption) ?r20
            case y20 =>
              intro w hSw; obtain ⟨hS0, hS1, hS2⟩ := hSw
              go_simp
              try with_reducible rfl
            simp only [Act.put, List.setIfInBounds_toArray, List.set_cons_zero, List.set_cons_succ]
            refine wpAnyH_ready (rs := [23]) (by kernel_rfl) (by simp) ?_
            refine AllReadyH.cons (o := ⟨none, _, _, _, _, _⟩) rfl (fun K hK => ?_) AllReadyH.nil
            go_simp
            refine hK.out _ _ ?_ (fun hHeld => ?_)
            · exact ⟨(World.cell?_of_block (a := ⟨rb, 0, none⟩) (RowKit.Below.heap_setCell _ _ _ _ hne1)).trans ((HB3.out.cell (p := ⟨rb, 0, none⟩) (by show rb < W1.heap.size; omega)).trans q0), (World.cell?_of_block (a := ⟨wr.heap.size, 0, none⟩) (RowKit.Below.heap_setCell _ _ _ _ hne2)).trans ((HB3.out.cell (p := ⟨wr.heap.size, 0, none⟩) (by show wr.heap.size < W1.heap.size; omega)).trans c0), (World.cell?_of_block (a := ⟨wr.heap.size, 1, none⟩) (RowKit.Below.heap_setCell _ _ _ _ hne2)).trans ((HB3.out.cell (p := ⟨wr.heap.size, 1, none⟩) (by show wr.heap.size < W1.heap.size; omega)).trans c1)⟩
            clear hK K
            try simp only [Act.put, List.setIfInBounds_toArray, List.set_cons_zero, List.set_cons_succ]
            refine wpAnyH_done (by kernel_rfl) ?_ _
            refine NoPanic.normal ?_
            have hnew : Owns W1.heap.size w3 (.slice (some ⟨g, 0, none⟩) (kk' + (32 - kk')) cap3) (ez.take kk' ++ old.drop kk') := by
              unfold Owns
              rw [List.length_append, HLT1.out, HLT2.out, List.map_append]
              exact hown
            have hl32 : (ez.take kk' ++ old.drop kk').length = 32 := by have a := HLT1.out; have b := HLT2.out; rw [List.length_append]; omega
            have hfin := (HR1.out.below HB3.out).stored (i := ea) (owns_zero hnew) hl32
            obtain ⟨z0, z1, _, _, _, z5⟩ := HF.out
            have hmv : Moves G w (w3.setCell ⟨sb, ea, none⟩ (.slice (some ⟨g, 0, none⟩) (kk' + (32 - kk')) cap3)) := ((HM.out.trans (moves_of_below (F := G) HAL.out) (fun _ e => .inl e)).trans (moves_of_below (F := G) HB3.out) (fun _ e => .inl e)).trans (moves_setCell (fun k => k = sb) w3 ⟨sb, ea, none⟩ _ rfl) (fun k e => .inl (e ▸ hGs))
            have hdd2 := rdoes_mk (v := .tuple #[]) hfin HST.out hmv z0 z1 (fun u hu k e => by
              rcases List.mem_or_eq_of_mem_set hu with h1 | h1
              · exact .inl (HUS.out u h1 k e)
              · subst h1
                have := (World.ownsRow.lt hnew k e).1
                exact .inr (by omega)) z5
            have r1z : (w3.setCell ⟨sb, ea, none⟩ (.slice (some ⟨g, 0, none⟩) (kk' + (32 - kk')) cap3)).cell? ⟨rb, 1, none⟩ = some (.slice (some ⟨cb, 0, none⟩) es.length cC) := hfin.r1
            have f1z : (w3.setCell ⟨sb, ea, none⟩ (.slice (some ⟨g, 0, none⟩) (kk' + (32 - kk')) cap3)).frozen? ⟨rb, 1, none⟩ = false := hfin.f1
            have HDD := Lib.hid hdd2
            clear hdd2 hfin hnew hmv z0 z1 z5 hown hgrow q1c q2c
            generalize (w3.setCell ⟨sb, ea, none⟩ (.slice (some ⟨g, 0, none⟩) (kk' + (32 - kk')) cap3)) = W9 at *
            go_wp2
            go_end0
            exact HDD.out
          · go_simp
            refine hK.out _ _ ?_ (fun hHeld => ?_)
            · exact hHeld
            clear hK K
            try simp only [Act.put, List.setIfInBounds_toArray, List.set_cons_zero, List.set_cons_succ]
            refine wpAnyH_take (i := 20) (oi := ⟨some 66, _, _, _, _, _⟩) (v := ?v21) rfl (by kernel_rfl) (by kernel_rfl) (by kernel_rfl) (fun _ _ _ h => h) (Or.inl ⟨by rfl, ?y21⟩) (by assumption) ?r21
            case y21 =>
              intro w hSw; obtain ⟨hS0, hS1, hS2⟩ := hSw
              go_simp
              try with_reducible rfl
            simp only [Act.put, List.setIfInBounds_toArray, List.set_cons_zero, List.set_cons_succ]
            refine wpAnyH_ready (rs := [10]) (by kernel_rfl) (by simp) ?_
            refine AllReadyH.cons (o := ⟨some 56, _, _, _, _, _⟩) rfl (fun K hK => ?_) AllReadyH.nil
            go_simp
            refine (copyB (some ⟨dd, 0, none⟩) (ez.take kk') dcap kk' HLT1.out (by omega) _ (HGC.out.drewN 1)).mono ?_
            rintro e w2 ⟨v2, rfl, o2, b2⟩
            have B2 : Hid (Below W1.heap.size W1 w2) := Lib.hid ⟨b2.os, b2.tape, b2.output, b2.size, b2.block⟩
            have s2 : W1.heap.size ≤ w2.heap.size := b2.size
            have HO2 : Hid (Owns W1.heap.size w2 v2 (ez.take kk')) := Lib.hid o2
            have q1b : w2.cell? ⟨sb, ea, none⟩ = some (.slice (some ⟨ob, 0, none⟩) 32 oc) := (B2.out.cell (p := ⟨sb, ea, none⟩) hsb1).trans q1
            clear o2 b2
            simp only []
            refine hK.out _ _ ?_ (fun hHeld => ?_)
            · exact ⟨(B2.out.cell (p := ⟨rb, 0, none⟩) (by show rb < W1.heap.size; omega)).trans q0, (B2.out.cell (p := ⟨wr.heap.size, 0, none⟩) (by show wr.heap.size < W1.heap.size; omega)).trans c0, (B2.out.cell (p := ⟨wr.heap.size, 1, none⟩) (by show wr.heap.size < W1.heap.size; omega)).trans c1⟩
            clear hK K
            try simp only [Act.put, List.setIfInBounds_toArray, List.set_cons_zero, List.set_cons_succ]
            refine wpAnyH_ready (rs := [21]) (by kernel_rfl) (by simp) ?_
            refine AllReadyH.cons (o := ⟨some 67, _, _, _, _, _⟩) rfl (fun K hK => ?_) AllReadyH.nil
            have hO2 : w2.ownsRow W1.heap.size 5 1 v2 kk' ((ez.take kk').map (Value.int .u8)) := by
              have := HO2.out
              unfold Owns at this
              rwa [HLT1.out] at this
            refine step_append_lies _ (by rfl) _ _ _ (by rfl) W1.heap.size 5 i0 (.int .u8 0) 1 1 Tryz.underlying39 hi0 hz0 hz1 hz2 (by rfl) (by omega) v2 kk' ((ez.take kk').map (Value.int .u8)) (by rfl) hO2 ⟨ob, kk', none⟩ (32 - kk') (oc - kk') ((old.drop kk').map (Value.int .u8)) (by rfl) (by have := HLT2.out; rw [List.length_map]; omega) (cells_of_good rfl (HGO.out.below B2.out)) (one_u8 _) (by omega) (by simp only [maxLen]; omega) (by omega) s2 w2.heap.size rfl ?_
            intro g cap3 w3 hown hgrow hat hlt3
            have hvb : ∀ k, k < W1.heap.size → some k ≠ v2.ownBlock := fun k hk e => by have := (hO2.lt k e.symm).1; omega
            have HB3 : Hid (Below W1.heap.size W1 w3) := Lib.hid (B2.out.grown hgrow s2 (fun k e => (hO2.lt k e).1))
            have q1c : w3.cell? ⟨sb, ea, none⟩ = some (.slice (some ⟨ob, 0, none⟩) 32 oc) := (HB3.out.cell (p := ⟨sb, ea, none⟩) hsb1).trans q1
            have q2c : w3.frozen? ⟨sb, ea, none⟩ = false := (HB3.out.frozen (p := ⟨sb, ea, none⟩) hsb1).trans q2
            refine hK.out _ _ ?_ (fun hHeld => ?_)
            · exact ⟨(HB3.out.cell (p := ⟨rb, 0, none⟩) (by show rb < W1.heap.size; omega)).trans q0, (HB3.out.cell (p := ⟨wr.heap.size, 0, none⟩) (by show wr.heap.size < W1.heap.size; omega)).trans c0, (HB3.out.cell (p := ⟨wr.heap.size, 1, none⟩) (by show wr.heap.size < W1.heap.size; omega)).trans c1⟩
            clear hK K
            try simp only [Act.put, List.setIfInBounds_toArray, List.set_cons_zero, List.set_cons_succ]
            refine wpAnyH_take (i := 22) (oi := ⟨some 68, _, _, _, _, _⟩) (v := ?v22) rfl (by kernel_rfl) (by kernel_rfl) (by kernel_rfl) (fun _ _ _ h => h) (Or.inl ⟨by rfl, ?y22⟩) (by assumption) ?r22
            case y22 =>
              intro w hSw; obtain ⟨hS0, hS1, hS2⟩ := hSw
              go_simp
              try with_reducible rfl
            simp only [Act.put, List.setIfInBounds_toArray, List.set_cons_zero, List.set_cons_succ]
            refine wpAnyH_ready (rs := [23]) (by kernel_rfl) (by simp) ?_
            refine AllReadyH.cons (o := ⟨none, _, _, _, _, _⟩) rfl (fun K hK => ?_) AllReadyH.nil
            go_simp
            refine hK.out _ _ ?_ (fun hHeld => ?_)
            · exact ⟨(World.cell?_of_block (a := ⟨rb, 0, none⟩) (RowKit.Below.heap_setCell _ _ _ _ hne1)).trans ((HB3.out.cell (p := ⟨rb, 0, none⟩) (by show rb < W1.heap.size; omega)).trans q0), (World.cell?_of_block (a := ⟨wr.heap.size, 0, none⟩) (RowKit.Below.heap_setCell _ _ _ _ hne2)).trans ((HB3.out.cell (p := ⟨wr.heap.size, 0, none⟩) (by show wr.heap.size < W1.heap.size; omega)).trans c0), (World.cell?_of_block (a := ⟨wr.heap.size, 1, none⟩) (RowKit.Below.heap_setCell _ _ _ _ hne2)).trans ((HB3.out.cell (p := ⟨wr.heap.size, 1, none⟩) (by show wr.heap.size < W1.heap.size; omega)).trans c1)⟩
            clear hK K
            try simp only [Act.put, List.setIfInBounds_toArray, List.set_cons_zero, List.set_cons_succ]
            refine wpAnyH_done (by kernel_rfl) ?_ _
            refine NoPanic.normal ?_
            have hnew : Owns W1.heap.size w3 (.slice (some ⟨g, 0, none⟩) (kk' + (32 - kk')) cap3) (ez.take kk' ++ old.drop kk') := by
              unfold Owns
              rw [List.length_append, HLT1.out, HLT2.out, List.map_append]
              exact hown
            have hl32 : (ez.take kk' ++ old.drop kk').length = 32 := by have a := HLT1.out; have b := HLT2.out; rw [List.length_append]; omega
            have hfin := (HR1.out.below HB3.out).stored (i := ea) (owns_zero hnew) hl32
            obtain ⟨z0, z1, _, _, _, z5⟩ := HF.out
            have hmv : Moves G w (w3.setCell ⟨sb, ea, none⟩ (.slice (some ⟨g, 0, none⟩) (kk' + (32 - kk')) cap3)) := ((HM.out.trans (moves_of_below (F := G) HAL.out) (fun _ e => .inl e)).trans (moves_of_below (F := G) HB3.out) (fun _ e => .inl e)).trans (moves_setCell (fun k => k = sb) w3 ⟨sb, ea, none⟩ _ rfl) (fun k e => .inl (e ▸ hGs))
            have hdd2 := rdoes_mk (v := .tuple #[]) hfin HST.out hmv z0 z1 (fun u hu k e => by
              rcases List.mem_or_eq_of_mem_set hu with h1 | h1
              · exact .inl (HUS.out u h1 k e)
              · subst h1
                have := (World.ownsRow.lt hnew k e).1
                exact .inr (by omega)) z5
            have r1z : (w3.setCell ⟨sb, ea, none⟩ (.slice (some ⟨g, 0, none⟩) (kk' + (32 - kk')) cap3)).cell? ⟨rb, 1, none⟩ = some (.slice (some ⟨cb, 0, none⟩) es.length cC) := hfin.r1
            have f1z : (w3.setCell ⟨sb, ea, none⟩ (.slice (some ⟨g, 0, none⟩) (kk' + (32 - kk')) cap3)).frozen? ⟨rb, 1, none⟩ = false := hfin.f1
            have HDD := Lib.hid hdd2
            clear hdd2 hfin hnew hmv z0 z1 z5 hown hgrow q1c q2c
            generalize (w3.setCell ⟨sb, ea, none⟩ (.slice (some ⟨g, 0, none⟩) (kk' + (32 - kk')) cap3)) = W9 at *
            go_wp2
            go_end0
            exact HDD.out
    · obtain rfl : j = es.length := by omega
      have hkl : keptOf keep st.cache.length = st.cache.length := by unfold keptOf; rw [← HLE.out]; omega
      have hfin : (⟨carry st.safe (st.cache.take es.length), []⟩ : St) = crashS st keep tear := by
        rw [crash_all_eq st keep tear hkl, List.take_of_length_le (by rw [HLE.out]; exact Nat.le_refl _)]
        rfl
      obtain ⟨q0, q1, _, _, _, q5⟩ := HF.out
      have hd := rdoes_mk (v := .tuple #[]) hr hfin hm q0 q1 (fun u hu k e => .inl (hus u hu k e)) q5
      have HDD := Lib.hid hd
      clear hd hr hus hm hfin hkl q0 q1 q5
      go_wp2
      go_end0
      exact HDD.out
theorem rcrash_any (G : Nat → Prop) (rb n : Nat) (st st' : St) (keep tear : Int) (w : World) (h : RefAt w G rb n st) (hc : st.cache.length ≤ 1000) (hst : crashS st keep tear = st') :
    Calls Tryz.prog 17 #[.pointer (some ⟨rb, 0, none⟩), .int .i64 keep, .int .i64 tear] w (RDoes G rb n st' (.tuple #[]) w) := by
  subst hst
  exact rcrash_all G rb n st keep tear w h hc
set_option maxHeartbeats 400000 in
theorem rflush_any (G : Nat → Prop) (rb n : Nat) (st : St) (w : World) (h : RefAt w G rb n st) (hc : st.cache.length ≤ 1000) :
    Calls Tryz.prog 45 #[.pointer (some ⟨rb, 0, none⟩)] w (RDoes G rb n (flushS st) (.tuple #[]) w) := by
  have h0 := h
  obtain ⟨sv, cv, vs, es, h, _⟩ := h
  have hlen : es.length = st.cache.length := by rw [← h.same, List.length_map]
  obtain ⟨cA, cC, rfl, _⟩ := row_shape h.crow
  have r1 := h.r1
  have hk : crashS st es.length 0 = flushS st := crash_all_eq st _ _ (by unfold keptOf; omega)
  have HK := Lib.hid hk
  have HL := Lib.hid hlen
  clear hk hlen
  go_enter Tryz.func45, Tryz.ntmps45
  go_wp2_with fail
  refine (rcrash_any G rb n st _ es.length 0 w h0 hc HK.out).mono ?_
  rintro e w2 hd
  obtain ⟨rfl, d2, d3⟩ := hd
  have D2 := Lib.hid d2
  have D3 := Lib.hid d3
  clear d2 d3
  go_wp2
  go_end0
  exact ⟨rfl, D2.out, D3.out⟩
end Go.Proofs.YtdmkkfpbgpijjaaGreat
