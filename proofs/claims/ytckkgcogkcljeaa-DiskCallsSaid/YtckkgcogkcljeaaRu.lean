/- The document's own disk: Write. -/
import Derived.Test.YtckkgcogkcljeaaRt
namespace Go.Proofs.Ytckkgcogkcljeaa
open Go.RowKit Go.Deep Go.Maps
attribute [local go_sem ↓] Go.wp_at_zero Go.wp_at_succ

def RDoes (G : Nat → Prop) (rb n : Nat) (st : St) (v : Value) (w : World) (e : Ending) (w' : World) : Prop := e = .returned v ∧ RefAt w' (grow G w w') rb n st ∧ Moves G w w'
theorem RefAt.same {w : World} {G : Nat → Prop} {rb n : Nat} {st : St} (h : RefAt w G rb n st) : RefAt w (grow G w w) rb n st := by
  obtain ⟨sv, cv, vs, es, h, g0, g1, g2, g3, g4, g5⟩ := h
  exact ⟨sv, cv, vs, es, h, .inl g0, fun k e => .inl (g1 k e), fun k e => .inl (g2 k e), fun v hv k e => .inl (g3 v hv k e), fun v hv k e => .inl (g4 v hv k e), fun k hk => hk.elim (g5 k) (fun e => e.2)⟩
theorem RefIn.written {G : Nat → Prop} {w w2 w3 : World} {o : Obj} {rb : Nat} {sv cv : Value} {n : Nat} {st : St} {vs : List Value} {es : List En} {i : Nat} {zs : List Int} {v2 : Value} {g cap : Nat}
    (h : RefIn w rb sv cv n st vs es) (hi : i < n) (hz : zs.length = 32) (b2 : Below w.heap.size w w2) (o2 : Owns w.heap.size w2 v2 zs) (hgrow : (w2.alloc o).grownBy w3 cv.ownBlock)
    (hown : w3.ownsRow 0 65 2 (.slice (some ⟨g, 0, none⟩) (es.length + 1) cap) (es.length + 1) (es.flatMap enC ++ enC ((i, zs), v2))) (hat : cv.ownBlock = some g ∨ g = w2.heap.size + 1)
    (g0 : G rb) (g1 : ∀ k, sv.ownBlock = some k → G k) (g2 : ∀ k, cv.ownBlock = some k → G k) (g3 : ∀ v ∈ vs, ∀ k, v.ownBlock = some k → G k) (g4 : ∀ e ∈ es, ∀ k, e.2.ownBlock = some k → G k) (g5 : ∀ k, G k → k < w.heap.size) (v : Value) :
    RDoes G rb n (writeS st i zs) v w (.returned v) (w3.setCell ⟨rb, 1, none⟩ (.slice (some ⟨g, 0, none⟩) (es.length + 1) cap)) := by
  have hR := h.below b2
  obtain ⟨C0, hb0⟩ := hR.blk
  have s2 := b2.size
  have hs : w2.heap.size + 1 ≤ w3.heap.size := by have := hgrow.size; simpa using this
  have hrb := hR.lt
  generalize hv : (Value.slice (some ⟨g, 0, none⟩) (es.length + 1) cap) = v' at *
  have hvb : v'.ownBlock = some g := by rw [← hv]; rfl
  have hk : ∀ c, c < w2.heap.size → cv.ownBlock ≠ some c → w3.heap[c]? = w2.heap[c]? := fun c hc hne => by
    rw [hgrow.block c (by simp; omega) (fun e => hne e.symm), Below.heap_alloc _ _ _ hc]
  have hcb : ∀ {c : Nat} {C : Array Value} {t : TypeId} {fr : Nat × Nat}, w2.heap[c]? = some (.cells C t fr) → t ≠ 65 → cv.ownBlock ≠ some c := fun {c C t fr} hc ht e => by
    obtain ⟨D, fr', hd⟩ := row_block hR.crow e
    exact apart_types hc hd ht rfl
  have hrb1 := hk rb hrb (hcb hb0 (by decide))
  have hgrb : g ≠ rb := by
    rcases hat with e | e
    · exact fun x => hcb hb0 (by decide) (x ▸ e)
    · omega
  have hset : ∀ c, c ≠ rb → (w3.setCell ⟨rb, 1, none⟩ v').heap[c]? = w3.heap[c]? := fun c hc => RowKit.Below.heap_setCell _ _ _ _ hc
  have k1 : w3.cell? ⟨rb, 1, none⟩ = some cv := (World.cell?_of_block (a := ⟨rb, 1, none⟩) hrb1).trans hR.r1
  have hall : ∀ {c : Nat} {C : Array Value} {t : TypeId} {fr : Nat × Nat}, w2.heap[c]? = some (.cells C t fr) → t ≠ 65 → t ≠ 45 → (w3.setCell ⟨rb, 1, none⟩ v').heap[c]? = w2.heap[c]? := fun {c C t fr} hc h1 h2 => by
    have hlt : c < w2.heap.size := (Array.getElem?_eq_some_iff.1 hc).1
    rw [hset c (apart_types hc hb0 h2)]
    exact hk c hlt (hcb hc h1)
  have m1 : Moves G w w2 := moves_of_below b2
  have m2 : Moves G w w3 := (m1.trans (moves_alloc G w2 o) (fun _ e => .inl e)).trans (moves_of_grown (F := G) hgrow (fun k e => g2 k e)) (fun _ e => .inl e)
  have m3 : Moves G w (w3.setCell ⟨rb, 1, none⟩ v') := m2.trans (moves_setCell (fun k => k = rb) w3 ⟨rb, 1, none⟩ v' rfl) (fun k e => .inl (e ▸ g0))
  have hsz : w3.heap.size = (w3.setCell ⟨rb, 1, none⟩ v').heap.size := by simp
  refine ⟨rfl, ⟨sv, v', vs, es ++ [((i, zs), v2)], ⟨⟨_, heap_setCell_same w3 rb 1 C0 45 v' (hrb1.trans hb0)⟩, ?_, World.cell?_setCell_same _ _ _ k1, (World.frozen?_setCell _ _ _ _).trans ((World.frozen?_of_block (a := ⟨rb, 0, none⟩) hrb1).trans hR.f0), (World.frozen?_setCell _ _ _ _).trans ((World.frozen?_of_block (a := ⟨rb, 1, none⟩) hrb1).trans hR.f1), ?_, ?_, ?_, ?_, ?_, h.wf.write hi hz, h.n1, h.n2⟩, .inl g0, fun k e => .inl (g1 k e), ?_, fun v hv k e => .inl (g3 v hv k e), ?_, ?_⟩, m3⟩
  · rw [World.cell?_setCell_other _ _ _ _ (by simp)]
    exact (World.cell?_of_block (a := ⟨rb, 0, none⟩) hrb1).trans hR.r0
  · refine row_kept hR.srow (fun k e => ?_)
    obtain ⟨D, fr, hd⟩ := row_block hR.srow e
    exact hall hd (by decide) (by decide)
  · have e1 : (es ++ [((i, zs), v2)]).length = es.length + 1 := by simp
    have e2 : (es ++ [((i, zs), v2)]).flatMap enC = es.flatMap enC ++ enC ((i, zs), v2) := by simp
    rw [e1, e2]
    refine row_kept hown (fun k e => ?_)
    rw [hvb] at e
    injection e with e
    rw [← e]
    exact hset g hgrb
  · intro j v hv
    refine row_kept (hR.sdat j v hv) (fun k e => ?_)
    obtain ⟨D, fr, hd⟩ := row_block (hR.sdat j v hv) e
    exact hall hd (by decide) (by decide)
  · intro x hx
    rcases List.mem_append.1 hx with hx | hx
    · refine row_kept (hR.cdat x hx) (fun k e => ?_)
      obtain ⟨D, fr, hd⟩ := row_block (hR.cdat x hx) e
      exact hall hd (by decide) (by decide)
    · rw [List.mem_singleton] at hx
      subst hx
      have h0 : Owns 0 w2 v2 zs := by
        refine ⟨o2.1, ?_⟩
        rcases o2.2 with a | ⟨g, cap, cur, a1, a2, a3⟩
        · exact .inl a
        · exact .inr ⟨g, cap, cur, a1, Nat.zero_le _, a3⟩
      refine row_kept h0 (fun k e => ?_)
      obtain ⟨D, fr, hd⟩ := row_block h0 e
      exact hall hd (by decide) (by decide)
  · simp [writeS, ← h.same]
  · intro k e
    rw [hvb] at e
    injection e with e
    subst e
    rcases hat with e | e
    · exact .inl (g2 g e)
    · have := (hown.lt g hvb).2
      exact .inr ⟨by omega, by omega⟩
  · intro x hx k e
    rcases List.mem_append.1 hx with hx | hx
    · exact .inl (g4 x hx k e)
    · rw [List.mem_singleton] at hx
      subst hx
      have := World.ownsRow.lt o2 k e
      exact .inr ⟨this.1, by omega⟩
  · rintro k (e | e)
    · have := g5 k e; omega
    · exact e.2
set_option maxRecDepth 100000 in
set_option maxHeartbeats 2000000 in
theorem rwrite_ok (G : Nat → Prop) (rb n i : Nat) (st : St) (A : Option Addr) (c : Nat) (zs : List Int) (w : World) (h : RefAt w G rb n st) (hi : i < n) (hz : zs.length = 32) (hg : Good A c zs w) (hc : st.cache.length ≤ 999) :
    Calls Try.prog 15 #[.pointer (some ⟨rb, 0, none⟩), .int .i64 i, .slice A 32 c] w (RDoes G rb n (writeS st i zs) (.int .i64 0) w) := by
  obtain ⟨sv, cv, vs, es, h, g0, g1, g2, g3, g4, g5⟩ := h
  obtain ⟨sb, cap0, rfl, hsb⟩ := sv_shape h
  obtain ⟨i0, hi0, hz0, hz1, hz2⟩ := info_parts info_rw
  have r0 := h.r0
  have r1 := h.r1
  have hrb := h.lt
  have hel : es.length ≤ 999 := by have : es.length = st.cache.length := by rw [← h.same, List.length_map]
                                   omega
  have d1 : decide ((i : Int) < 0) = false := by simp
  have d2 : decide ((n : Int) ≤ (i : Int)) = false := by simp; omega
  have d3 : decide (n ≤ i) = false := by simp; omega
  have i1 : (i : Int) < (n : Int) := by omega
  have hne : some rb ≠ cv.ownBlock := fun e => by
    obtain ⟨D, fr, hd⟩ := row_block h.crow e.symm
    obtain ⟨C0, hb0⟩ := h.blk
    exact apart_types hb0 hd (by decide) rfl
  have HZ := Lib.hid hz
  have HG := Lib.hid hg
  have HW := Lib.hid h
  have HF := Lib.hid (⟨g0, g1, g2, g3, g4, g5⟩ : G rb ∧ (∀ k, (Value.slice (some ⟨sb, 0, none⟩) n cap0).ownBlock = some k → G k) ∧ (∀ k, cv.ownBlock = some k → G k) ∧ (∀ v ∈ vs, ∀ k, v.ownBlock = some k → G k) ∧ (∀ e ∈ es, ∀ k, e.2.ownBlock = some k → G k) ∧ ∀ k, G k → k < w.heap.size)
  clear hz hg h g0 g1 g2 g3 g4 g5
  go_enter Try.func15, Try.ntmps15
  go_wp2
  go_region_law (first
    | (refine step_append_lies _ (by rfl) _ _ _ (by rfl) 0 65 i0 _ 2 32 Try.underlying43 hi0 hz0 hz1 hz2 (by rfl) (by omega) cv es.length (es.flatMap enC) (by rfl) (HCR.out.alloc _) ⟨w2.heap.size, 0, none⟩ 1 1 [.int .i64 (i : Int), .slice (some ⟨d, 0, none⟩) 32 capd] (by rfl) (by rfl) (World.news_of_block (cs := #[.int .i64 (i : Int), .slice (some ⟨d, 0, none⟩) 32 capd]) (t := 65) (fr := (0, 0)) (heap_alloc_new w2 _)) (by simp [Value.oneCell']) (by omega) (by simp only [maxLen]; omega) (by omega) (by omega) (w2.heap.size + 1) (by simp) ?_; intro g cap w3 hown hgrow hat hlt1; have k1 : w3.cell? ⟨rb, 1, none⟩ = some cv := (World.cell?_of_block (a := ⟨rb, 1, none⟩) (hgrow.block rb (by simp; omega) hne)).trans (r1c _); have kf : w3.frozen? ⟨rb, 1, none⟩ = false := (World.frozen?_of_block (a := ⟨rb, 1, none⟩) (hgrow.block rb (by simp; omega) hne)).trans (f1c _))
    | (go_simp; go_at_call 13; refine (copyB A zs c 32 HZ.out (by omega) _ (HG.out.drewN 1)).mono ?_; rintro e w2 ⟨v2, rfl, o2, b2⟩; obtain ⟨d, capd, e2, _, hdl⟩ := World.ownsRow.form o2 (by rw [HZ.out]; omega); subst e2; rw [HZ.out]; have B2 : Hid (Below w.heap.size w w2) := Lib.hid ⟨b2.os, b2.tape, b2.output, b2.size, b2.block⟩; have s2 : w.heap.size ≤ w2.heap.size := b2.size; have HR2 := Lib.hid (HW.out.below B2.out); have HCR := Lib.hid HR2.out.crow; have r1b : w2.cell? ⟨rb, 1, none⟩ = some cv := HR2.out.r1; have r1c : ∀ o : Obj, (w2.alloc o).cell? ⟨rb, 1, none⟩ = some cv := (fun o => (World.cell?_alloc_lt w2 o ⟨rb, 1, none⟩ (Nat.lt_of_lt_of_le hrb s2)).trans r1b); have f1c : ∀ o : Obj, (w2.alloc o).frozen? ⟨rb, 1, none⟩ = false := (fun o => (World.frozen?_alloc_past _ rb 1 (Nat.lt_of_lt_of_le hrb s2)).trans HR2.out.f1); have O2 := Lib.hid o2; clear o2 b2))
  all_goals
    have hO : Owns w.heap.size w2 (.slice (some ⟨d, 0, none⟩) 32 capd) zs := by
      have := O2.out
      rw [HZ.out] at this
      exact this
    obtain ⟨g0, g1, g2, g3, g4, g5⟩ := HF.out
    have hfin := HW.out.written (v2 := .slice (some ⟨d, 0, none⟩) 32 capd) hi HZ.out B2.out hO hgrow hown hat g0 g1 g2 g3 g4 g5 (.int .i64 0)
    have HFIN := Lib.hid hfin
    clear hfin hown hgrow g0 g1 g2 g3 g4 g5 hO r1b r1c f1c k1 kf
    go_wp2
    go_ret
    exact HFIN.out
set_option maxHeartbeats 400000 in
theorem rwrite_range (G : Nat → Prop) (rb n : Nat) (i : Int) (st : St) (A : Option Addr) (l c : Nat) (w : World) (h : RefAt w G rb n st) (hg : goodAt n i = false) :
    Calls Try.prog 15 #[.pointer (some ⟨rb, 0, none⟩), .int .i64 i, .slice A l c] w (RDoes G rb n st (.int .i64 11) w) := by
  have hs := Lib.hid h.same
  obtain ⟨sv, cv, vs, es, h, _⟩ := h
  obtain ⟨sb, cap, rfl, _⟩ := sv_shape h
  have r0 := h.r0
  by_cases h0 : i < 0
  · have d1 : decide (i < 0) = true := by simpa using h0
    go_enter Try.func15, Try.ntmps15
    go_wp2
    go_ret
    exact ⟨rfl, hs.out, Moves.refl _ _⟩
  · have d1 : decide (i < 0) = false := by simpa using h0
    have d2 : decide ((n : Int) ≤ i) = true := by simp [goodAt] at hg; simp; omega
    have HG := Lib.hid hg
    clear hg
    go_enter Try.func15, Try.ntmps15
    go_wp2
    go_ret
    exact ⟨rfl, hs.out, Moves.refl _ _⟩
set_option maxHeartbeats 400000 in
theorem rwrite_form (G : Nat → Prop) (rb n : Nat) (i : Int) (st : St) (A : Option Addr) (l c : Nat) (w : World) (h : RefAt w G rb n st) (hg : goodAt n i = true) (hl : l ≠ 32) :
    Calls Try.prog 15 #[.pointer (some ⟨rb, 0, none⟩), .int .i64 i, .slice A l c] w (RDoes G rb n st (.int .i64 10) w) := by
  have hs := Lib.hid h.same
  obtain ⟨sv, cv, vs, es, h, _⟩ := h
  obtain ⟨sb, cap, rfl, _⟩ := sv_shape h
  have r0 := h.r0
  have hgi : 0 ≤ i ∧ i < n := by simpa [goodAt] using hg
  have d1 : decide (i < 0) = false := by simp; omega
  have d2 : decide ((n : Int) ≤ i) = false := by simp; omega
  have hne : ((l : Int) != 32) = true := by simp; omega
  have HG := Lib.hid hg
  clear hg hgi
  go_enter Try.func15, Try.ntmps15
  go_wp2
  go_ret
  exact ⟨rfl, hs.out, Moves.refl _ _⟩
theorem rwrite_any (G : Nat → Prop) (rb n : Nat) (i : Int) (st st' : St) (A : Option Addr) (l c : Nat) (zs : List Int) (q : Int) (w : World) (h : RefAt w G rb n st) (hl : zs.length = l) (hg : Good A c zs w) (hc : st.cache.length ≤ 999) (hq : writeE n i l = q) (hst : writeT n st i zs = st') :
    Calls Try.prog 15 #[.pointer (some ⟨rb, 0, none⟩), .int .i64 i, .slice A l c] w (RDoes G rb n st' (.int .i64 q) w) := by
  subst hq hst
  unfold writeE writeT
  cases hgo : goodAt n i with
  | false => exact rwrite_range G rb n i st A l c w h hgo
  | true =>
    by_cases h32 : l = 32
    · subst h32
      simp only [hl, if_true]
      have hi : 0 ≤ i ∧ i < n := by simpa [goodAt] using hgo
      have := rwrite_ok G rb n i.toNat st A c zs w h (by omega) hl hg hc
      rwa [Int.toNat_of_nonneg hi.1] at this
    · simp only [hl, h32, if_true, if_false]
      exact rwrite_form G rb n i st A l c w h hgo h32
end Go.Proofs.Ytckkgcogkcljeaa
