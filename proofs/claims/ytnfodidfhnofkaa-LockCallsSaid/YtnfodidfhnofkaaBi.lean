/- A row of locks: grant, at a row behind a pointer. -/
import Derived.Test.YtnfodidfhnofkaaBh
import Derived.Deep.AppendLies
namespace Go.Proofs.Ytnfodidfhnofkaa
open Go.RowKit Go.Deep Go.Maps

/-- A row in a block of its own. -/
def BoxR (w : World) (rb : Nat) (hv wv : Value) : Prop := w.heap[rb]? = some (.cells #[hv, wv] 64 (0, 0))
theorem BoxR.new (w : World) (hv wv : Value) : BoxR (w.alloc (.cells #[hv, wv] 64)) w.heap.size hv wv := heap_alloc_new w _
theorem BoxR.lt {w : World} {rb : Nat} {hv wv : Value} (h : BoxR w rb hv wv) : rb < w.heap.size := (Array.getElem?_eq_some_iff.1 h).1
theorem BoxR.c0 {w : World} {rb : Nat} {hv wv : Value} (h : BoxR w rb hv wv) : w.cell? ⟨rb, 0, none⟩ = some hv := by simp [World.cell?, show w.heap[rb]? = _ from h]
theorem BoxR.c1 {w : World} {rb : Nat} {hv wv : Value} (h : BoxR w rb hv wv) : w.cell? ⟨rb, 1, none⟩ = some wv := by simp [World.cell?, show w.heap[rb]? = _ from h]
theorem BoxR.f0 {w : World} {rb : Nat} {hv wv : Value} (h : BoxR w rb hv wv) (i : Nat) : w.frozen? ⟨rb, i, none⟩ = false := by simp [World.frozen?, show w.heap[rb]? = _ from h]
theorem BoxR.kept {w w' : World} {rb : Nat} {hv wv : Value} (h : BoxR w rb hv wv) (hb : w'.heap[rb]? = w.heap[rb]?) : BoxR w' rb hv wv := hb.trans h
theorem BoxR.below {w w' : World} {rb : Nat} {hv wv : Value} (h : BoxR w rb hv wv) (hb : Below w.heap.size w w') : BoxR w' rb hv wv := h.kept (hb.block rb h.lt)
theorem setCell_heap {w : World} {b i : Nat} {cs : Array Value} {t : TypeId} {v : Value} (h : w.heap[b]? = some (.cells cs t (0, 0))) : (w.setCell ⟨b, i, none⟩ v).heap[b]? = some (.cells (cs.setIfInBounds i v) t (0, 0)) := heap_setCell_same w b i cs t v h
theorem setCell_keep {w : World} {b i : Nat} {v : Value} {cs : Array Value} {t : TypeId} (hh : w.heap[b]? = some (.cells cs t (0, 0))) (h : cs[i]? = some v) : (w.setCell ⟨b, i, none⟩ v).heap[b]? = w.heap[b]? := by
  rw [setCell_heap hh, hh]
  have e : cs.setIfInBounds i v = cs := by
    apply Array.ext_getElem?
    intro j
    rw [Array.getElem?_setIfInBounds]
    by_cases e : i = j
    · subst e; simp [h]; exact (Array.getElem?_eq_some_iff.1 h).1
    · rw [if_neg e]
  rw [e]
theorem own_slice {w : World} {base n size : Nat} {e : TypeId} {v : Value} {xs : List Value} (h : w.ownsRow base e size v n xs) (hn : 0 < n) : ∃ g cap, v = .slice (some ⟨g, 0, none⟩) n cap := by
  rcases h.2 with ⟨_, h0⟩ | ⟨g, cap, _, e, _⟩
  · omega
  · exact ⟨g, cap, e⟩
theorem BoxR.set0 {w : World} {rb : Nat} {hv wv : Value} (h : BoxR w rb hv wv) (v : Value) : BoxR (w.setCell ⟨rb, 0, none⟩ v) rb v wv := by
  have := setCell_heap (v := v) (i := 0) h
  simpa [BoxR] using this
theorem BoxR.set1 {w : World} {rb : Nat} {hv wv : Value} (h : BoxR w rb hv wv) (v : Value) : BoxR (w.setCell ⟨rb, 1, none⟩ v) rb hv v := by
  have := setCell_heap (v := v) (i := 1) h
  simpa [BoxR] using this
set_option maxRecDepth 100000 in
theorem infoHolder : (Try.prog.info? 83).map (fun i => (i.zero, i.size, i.bytes)) = some (some (.agg #[.int .i64 0, .int .i64 0]), 2, 16) := by kernel_rfl
/-- What a call leaves that turns a row's holders into hs'. -/
def NewH (w : World) (rb : Nat) (hv wv : Value) (hs' : List (Int × Int)) (e : Ending) (w' : World) : Prop :=
  e = .returned (.tuple #[]) ∧ ∃ hv', BoxR w' rb hv' wv ∧ HoldAt w' hv' hs' ∧ (∀ k, hv'.ownBlock = some k → hv.ownBlock = some k ∨ (w.heap.size ≤ k ∧ k < w'.heap.size)) ∧ Moves (fun k => k = rb ∨ hv.ownBlock = some k) w w'
theorem BoxR.grown {w1 w2 : World} {rb : Nat} {hv wv : Value} {o : Obj} {row : Option Nat} (h : BoxR w1 rb hv wv) (hg : (w1.alloc o).grownBy w2 row) (hne : row ≠ some rb) : BoxR w2 rb hv wv :=
  h.kept ((hg.block rb (by have := h.lt; simp; omega) (fun e => hne e.symm)).trans (Below.heap_alloc _ _ rb h.lt))
theorem flat_hc_set : ∀ (hs : List (Int × Int)) (i : Nat) (p : Int × Int), i < hs.length → ((hs.flatMap hc).set (i * 2) (.int .i64 p.1)).set (i * 2 + 1) (.int .i64 p.2) = (hs.set i p).flatMap hc
  | [], i, p, h => by simp at h
  | q :: t, 0, p, h => by simp [hc]
  | q :: t, i + 1, p, h => by
    have := flat_hc_set t i p (by simpa using h)
    rw [List.flatMap_cons, List.set_cons_succ, List.flatMap_cons, ← this, show (i + 1) * 2 = i * 2 + 1 + 1 by omega]
    simp [hc]
theorem HoldAt.set {w : World} {g n cap i : Nat} {hs : List (Int × Int)} {p : Int × Int} (h : HoldAt w (.slice (some ⟨g, 0, none⟩) n cap) hs) (hi : i < hs.length) (w' : World)
    (hw : w'.heap[g]? = ((w.setCell ⟨g, i * 2, none⟩ (.int .i64 p.1)).setCell ⟨g, i * 2 + 1, none⟩ (.int .i64 p.2)).heap[g]?) : HoldAt w' (.slice (some ⟨g, 0, none⟩) n cap) (hs.set i p) := by
  have hn := h.1
  rcases h.2 with ⟨e, _⟩ | ⟨g', cap', cur, e, hb0, hh, hnc, hcm, hsz, htk⟩
  · cases e
  · simp only [Value.slice.injEq, Option.some.injEq, Addr.mk.injEq, and_true] at e
    obtain ⟨rfl, hnn, rfl⟩ := e
    have h1 := setCell_heap (v := .int .i64 p.1) (i := i * 2) hh
    have h2 := setCell_heap (v := .int .i64 p.2) (i := i * 2 + 1) h1
    refine ⟨by rw [flat_hc_len], .inr ⟨g, cap, _, by rw [List.length_set, hnn], hb0, hw.trans h2, by rw [List.length_set]; exact hnc, hcm, by simp [hsz], ?_⟩⟩
    rw [List.length_set]
    simp only [Array.toList_setIfInBounds]
    rw [List.take_set, List.take_set, htk]
    exact flat_hc_set hs i p hi
/-- The second cell of one alone. -/
theorem HoldAt.set1 {w : World} {g n cap i : Nat} {hs : List (Int × Int)} {tx q want : Int} (h : HoldAt w (.slice (some ⟨g, 0, none⟩) n cap) hs) (hi : hs[i]? = some (tx, q)) : HoldAt (w.setCell ⟨g, i * 2 + 1, none⟩ (.int .i64 want)) (.slice (some ⟨g, 0, none⟩) n cap) (hs.set i (tx, want)) := by
  refine h.set (List.getElem?_eq_some_iff.1 hi).1 _ ?_
  rcases h.2 with ⟨e, _⟩ | ⟨g', cap', cur, e, hb0, hh, hnc, hcm, hsz, htk⟩
  · cases e
  · simp only [Value.slice.injEq, Option.some.injEq, Addr.mk.injEq, and_true] at e
    obtain ⟨rfl, hnn, rfl⟩ := e
    have hc := World.ownsRow.cells h (g := g) rfl (i * 2) _ (flat_hc_at hs i _ hi).1
    rw [Go.WideShapes.add_plain, cell_of_row w g (0 + i * 2) cur _ _ hh, Nat.zero_add] at hc
    have h1 := setCell_keep hh hc
    rw [hh] at h1
    rw [setCell_heap h1, setCell_heap hh]
set_option maxRecDepth 100000 in
set_option maxHeartbeats 1000000 in
theorem grant_any (rb : Nat) (hv wv : Value) (hs : List (Int × Int)) (tx want : Int) (w : World) (hB : BoxR w rb hv wv) (h : HoldAt w hv hs) (hne : hv.ownBlock ≠ some rb) (hl : hs.length ≤ 10000) :
    Calls Try.prog 38 #[.pointer (some ⟨rb, 0, none⟩), .int .i64 tx, .int .i64 want] w (NewH w rb hv wv (grantH hs tx want)) := by
  have H := Lib.hid h
  have HB := Lib.hid hB
  have HN := Lib.hid hne
  have c0 := hB.c0
  have c1 := hB.c1
  rcases placeH_spec hs tx with ⟨h1, h2, h3⟩ | ⟨i, q, h1, h2, h3, h4⟩
  · have HG := Lib.hid (grant_new (want := want) h3)
    clear h2 h3 hB h hne
    go_enter Try.func38, Try.ntmps38
    go_wp2_with fail
    refine (place_any hv wv hs tx _ _ H.out h1).mono ?_
    rintro e w1 ⟨rfl, hb⟩
    have H1 := Lib.hid (H.out.below hb)
    have HB1 := Lib.hid (HB.out.below hb)
    have c0 := HB1.out.c0
    have f0 := HB1.out.f0 0
    have hlt := HB1.out.lt
    have B1 := Lib.hid hb
    clear hb
    obtain ⟨i0, hi0, hz0, hz1, hz2⟩ := info_parts infoHolder
    go_wp2_with (at_builtin; refine wpList_append_own_at _ rfl _ _ 62 rfl 0 83 i0 _ 2 16 Try.underlying62 hi0 hz0 hz1 hz2 rfl (by decide) hv hs.length (hs.flatMap hc) rfl (H1.out.kept fun k hk => Below.heap_alloc _ _ k (H1.out.lt k hk)) ⟨w1.heap.size, 0, none⟩ 1 1 (hc (tx, want)) rfl rfl (World.news_of_block (cs := #[.int .i64 tx, .int .i64 want]) (t := 83) (fr := (0, 0)) (heap_alloc_new w1 _)) (by intro u hu; simp [hc] at hu; rcases hu with rfl | rfl <;> rfl) (by unfold maxLen; omega) (by omega) (Nat.zero_le _) ?_; intro v' w2 hown hgrow hnil hat; obtain ⟨g2, cap2, rfl⟩ := own_slice hown (by omega); have HB2 := Lib.hid (HB1.out.grown hgrow HN.out); have c0' := HB2.out.c0; have f0' := HB2.out.f0 0; have hlt2 := HB2.out.lt; have HO := Lib.hid hown; have HG2 := Lib.hid hgrow; have HA := Lib.hid hat; clear hown hgrow hnil hat c0 f0)
    (try simp only [Exit.inBlock, Exit.then])
    refine bodyPost_ret (results_none rfl _ _ _) rfl ?_
    refine ⟨rfl, _, HB2.out.set0 _, ?_, fun k hk => ?_, ?_⟩
    · rw [HG.out]
      have hk : HoldAt w2 (.slice (some ⟨g2, 0, none⟩) (hs.length + 1) cap2) (hs ++ [(tx, want)]) := by
        unfold HoldAt
        rw [List.length_append, List.flatMap_append]
        exact HO.out
      refine hk.kept fun k hk => Below.heap_setCell _ _ _ k (fun e => ?_)
      simp only [Value.ownBlock, Option.some.injEq] at hk
      rcases HA.out with h | h
      · exact HN.out (by rw [← h]; show some g2 = some rb; rw [hk]; exact congrArg some e)
      · simp only [Value.ownBlock, Option.some.injEq, World.size_alloc] at h
        have : k = rb := e
        omega
    · rcases HA.out with h | h
      · exact .inl (h ▸ hk)
      · simp only [Value.ownBlock, Option.some.injEq, World.size_alloc] at h hk
        have := B1.out.size
        have := (HO.out.lt g2 rfl).2
        exact .inr ⟨by omega, by simp; omega⟩
    · have m1 : Moves (fun k => k = rb ∨ hv.ownBlock = some k) w w1 := moves_of_below B1.out
      have m2 : Moves (fun k => k = rb ∨ hv.ownBlock = some k) w1 _ := moves_of_below ((Below.refl _ w1).alloc (Nat.le_refl _) (Obj.cells #[Value.int IntKind.i64 tx, Value.int IntKind.i64 want] 83))
      have m3 : Moves (fun k => k = rb ∨ hv.ownBlock = some k) _ w2 := moves_of_grown HG2.out (fun k hk => .inr hk)
      have m4 := moves_setCell (fun k => k = rb ∨ hv.ownBlock = some k) w2 ⟨rb, 0, none⟩ (.slice (some ⟨g2, 0, none⟩) (hs.length + 1) cap2) (.inl rfl)
      exact ((m1.trans m2 fun _ h => .inl h).trans m3 fun _ h => .inl h).trans m4 fun _ h => .inl h
  · have HG := Lib.hid (h4 want)
    have hi : i < hs.length := (List.getElem?_eq_some_iff.1 h2).1
    rcases h.out with ⟨_, e⟩ | ⟨g, cap, rfl, a1, a2, a3, a4⟩
    · rw [e] at hi; simp at hi
    · have hcell := (a4 i _ h2).2
      have hi' : (i : Int) < (hs.length : Int) := by omega
      have hgr : g ≠ rb := fun e => hne (by rw [e]; rfl)
      have hfz : w.frozen? ⟨g, i * 2 + 1, none⟩ = false := by
        rcases h.2 with ⟨e, _⟩ | ⟨g', cap', cur, e, _, hh, _⟩
        · cases e
        · simp only [Value.slice.injEq, Option.some.injEq, Addr.mk.injEq, and_true] at e
          obtain ⟨rfl, _⟩ := e
          simp [World.frozen?, hh]
      have H2 := Lib.hid h2
      have H1 := Lib.hid h1
      clear a4 a2 a1 h3 h4 h2 hB h hne h1
      go_enter Try.func38, Try.ntmps38
      go_wp2_with fail
      refine (place_any _ wv hs tx _ _ H.out H1.out).mono ?_
      rintro e w1 ⟨rfl, hb⟩
      have HB1 := Lib.hid (HB.out.below hb)
      have HH1 := Lib.hid (H.out.below hb)
      have c0' := HB1.out.c0
      have c2 : w1.cell? ⟨g, i * 2 + 1, none⟩ = some (.int .i64 q) := (hb.cell (p := ⟨g, i * 2 + 1, none⟩) a3).trans hcell
      have f2 : w1.frozen? ⟨g, i * 2 + 1, none⟩ = false := by
        rw [World.frozen?_of_block (a := ⟨g, i * 2 + 1, none⟩) (hb.block g a3)]; exact hfz
      have B1 := Lib.hid hb
      clear hb c0 hcell hfz
      go_wp2_with fail
      go_end0
      have hset : HoldAt (w1.setCell ⟨g, i * 2 + 1, none⟩ (.int .i64 want)) (.slice (some ⟨g, 0, none⟩) hs.length cap) (hs.set i (tx, want)) := HH1.out.set1 H2.out
      refine ⟨rfl, _, HB1.out.kept (Below.heap_setCell _ _ _ rb (Ne.symm hgr)), by rw [HG.out]; exact hset, fun k hk => .inl hk, ?_⟩
      have m1 : Moves (fun k => k = rb ∨ (Value.slice (some ⟨g, 0, none⟩) hs.length cap).ownBlock = some k) w w1 := moves_of_below B1.out
      exact m1.trans (moves_setCell _ w1 ⟨g, i * 2 + 1, none⟩ _ (.inr rfl)) fun _ h => .inl h
end Go.Proofs.Ytnfodidfhnofkaa
