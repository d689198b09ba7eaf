/- lock: Quit; and what follows a row's going on. -/
import Derived.Test.YtnfodidfhnofkaaBp
namespace Go.Proofs.Ytnfodidfhnofkaa
open Go.RowKit Go.Deep Go.Maps

/-- goOn behind a row's change. -/
theorem goOn_from {F G : Nat → Prop} {tb rb wb : Nat} {g : KeyT → Value} {m : Nat} {st : PS} {k : KeyT} {r : PRow} {hv wv : Value} {w0 w : World} (h : TabIn w0 F tb rb wb g m (fun _ => True) st) (hm4 : Moves G w0 w) (hG : ∀ b, G b → BlkOf (rowG st g k) b ∨ w0.heap.size ≤ b)
    (hr : RowAt w (.agg #[hv, wv]) r) (hin : ∀ b, BlkOf (.agg #[hv, wv]) b → BlkOf (rowG st g k) b ∨ w0.heap.size ≤ b) (hsome : (st.rows k).isSome = true) (hl : r.hs.length + r.ws.length ≤ m) (hm : m ≤ 1000) (hn : r.ws.Nodup) (hok : ∀ t ∈ r.ws, okI t) :
    Calls Try.prog 47 #[.pointer (some ⟨tb, 0, none⟩), KV k, .agg #[hv, wv]] w fun e w5 => e = .returned (.tuple #[]) ∧ (∃ g', TabIn w5 (grow F w0 w5) tb rb wb g' m (fun _ => True) (goOnS st k r)) ∧ Moves F w0 w5 := by
  have hsz := hm4.size
  have hb := (h.but (k := k) trivial).moves hm4 (fun b hF hGb => (hG b hGb).elim hF.2 (fun e => by have := h.lt b hF.1; omega))
  refine (goOn_any _ tb rb wb g m st k r hv wv w hb hr (fun b hx hF => (hin b hx).elim hF.2 (fun e => by have := h.lt b hF.1; omega)) hsome hl hm hn hok).mono ?_
  rintro e w5 ⟨rfl, ⟨g', h5⟩, m5⟩
  have hsz5 := m5.size
  have hrow := (h.row (k := k) trivial).2.2
  have hto : ∀ b, ((F b ∧ ¬ BlkOf (rowG st g k) b) ∨ BlkOf (.agg #[hv, wv]) b) → F b ∨ w0.heap.size ≤ b := fun b hx => hx.elim (fun e => .inl e.1) (fun e => (hin b e).elim (fun y => .inl (hrow b y).1) .inr)
  refine ⟨rfl, ⟨g', h5.more (fun b hx => ?_) (fun b hx => ?_)⟩, ?_⟩
  · rcases hx with hx | hx
    · rcases hto b hx with y | y
      · exact .inl y
      · refine .inr ⟨y, ?_⟩
        exact hx.elim (fun e => by have := h.lt b e.1; omega) (fun e => Nat.lt_of_lt_of_le (hr.lt e) hsz5)
    · exact .inr ⟨by omega, hx.2⟩
  · exact hx.elim (fun y => Nat.lt_of_lt_of_le (h.lt b y) (by omega)) (·.2)
  · exact ⟨m5.os.trans hm4.os, m5.tape.trans hm4.tape, m5.output.trans hm4.output, by omega, fun b hb hn => (m5.block b (by omega) (fun e => (hto b e).elim hn (fun y => by omega))).trans (hm4.block b hb (fun e => (hG b e).elim (fun y => hn (hrow b y).1) (fun y => by omega)))⟩
theorem RowAt.apart {w : World} {hv wv : Value} {r : PRow} (h : RowAt w (.agg #[hv, wv]) r) : ∀ b, hv.ownBlock = some b → wv.ownBlock ≠ some b := by
  obtain ⟨hv0, wv0, e0, _, _, h0⟩ := h
  simp only [Value.agg.injEq, Array.mk.injEq, List.cons.injEq, and_true] at e0
  obtain ⟨rfl, rfl⟩ := e0
  exact h0
theorem leaveW_len (ws : List Int) (tx : Int) : (leaveW ws tx).length ≤ ws.length := List.length_filter_le _ _
theorem RowOK.okI {wi : Int → Option PWish} {k : KeyT} {hs : List (Int × Int)} {ws : List Int} (h : RowOK wi k hs ws) : ∀ t ∈ ws, Go.Proofs.Ytnfodidfhnofkaa.okI t := fun t ht => by obtain ⟨_, _, _, _, _, h1, h2⟩ := h.mem t ht; unfold Go.Proofs.Ytnfodidfhnofkaa.okI; omega
theorem RowOK.nodup {wi : Int → Option PWish} {k : KeyT} {hs : List (Int × Int)} {ws : List Int} (h : RowOK wi k hs ws) : ws.Nodup := h.wnd
theorem quit_does {F : Nat → Prop} {tb rb wb m : Nat} {st' : PS} {w w1 w5 : World} {r : Value} (hI : Inv st') (hF : ∀ b, F b → b < w.heap.size) (hm : Moves F w w1) (h5 : (∃ g', TabIn w5 (grow F w1 w5) tb rb wb g' m (fun _ => True) st') ∧ Moves F w1 w5) : Does F tb m st' r w (.returned r) w5 := by
  obtain ⟨⟨g', h⟩, m5⟩ := h5
  have h1 := hm.size
  have h2 := m5.size
  exact ⟨rfl, ⟨hI, rb, wb, g', h.more (fun b hb => hb.imp id fun e => ⟨by omega, e.2⟩) (fun b hb => hb.elim (fun e => Nat.lt_of_lt_of_le (hF b e) (by omega)) (·.2))⟩, hm.trans m5 fun _ e => .inl e⟩
set_option maxRecDepth 100000 in
set_option maxHeartbeats 2000000 in
theorem quit_any (F : Nat → Prop) (tb m : Nat) (st : PS) (tx : Int) (w : World) (h : LockAt w F tb m st) (hm : m ≤ 1000) (ht : okI tx) :
    Calls Try.prog 17 #[.pointer (some ⟨tb, 0, none⟩), .int .i64 tx] w (Does F tb m (quitS st tx).1 (.bool (quitS st tx).2) w) := by
  have hI := h.1
  have hI' := Lib.hid (quit_inv hI tx)
  obtain ⟨_, rb, wb, g, h⟩ := h
  have wl := h.wbl
  have tl := h.tbl
  have rl := h.rbl
  have c2 := h.c2
  have hl := h.wish (w' := w) ht rfl
  simp only [(wish_parts st tx).1, (wish_parts st tx).2] at hl
  unfold kv at hl
  simp only [List.cons_append, List.nil_append] at hl
  have HT := Lib.hid h
  have HI := Lib.hid hI
  clear h hI
  cases hp : st.wish tx with
  | none =>
    have e : quitS st tx = (st, false) := by unfold quitS; rw [hp]
    rw [e] at hI' ⊢
    simp only [hp, Option.isSome_none] at hl
    go_enter Try.func17, Try.ntmps17
    go_wp2_with fail
    go_ret
    exact quit_does HI.out (fun b hb => HT.out.lt b hb) (moves_of_below (Below.refl _ w)) ⟨⟨g, (HT.out.below ((Below.refl _ w).alloc (Nat.le_refl _) _)).more (fun b hb => .inl hb) (fun b hb => hb.elim (fun e => by have := HT.out.lt b e; simp; omega) (·.2))⟩, moves_of_below ((Below.refl _ w).alloc (Nat.le_refl _) _)⟩
  | some p =>
    have e : quitS st tx = (goOnS { st with wish := upd st.wish tx none } p.key ⟨(st.row p.key).hs, leaveW (st.row p.key).ws tx⟩, true) := by unfold quitS; rw [hp]
    rw [e] at hI' ⊢
    have hk : keyW st tx = p.key := by unfold keyW; rw [hp]
    simp only [hp, hk, Option.isSome_some] at hl
    generalize hk0 : ((p.key.a.val : Nat) : Int) = z0 at *
    generalize hk1 : ((p.key.b.val : Nat) : Int) = z1 at *
    generalize hk2 : ((p.key.c.val : Nat) : Int) = z2 at *
    generalize hk3 : ((p.key.d.val : Nat) : Int) = z3 at *
    have HK := Lib.hid (show KV p.key = .agg #[.int .u8 z0, .int .u8 z1, .int .u8 z2, .int .u8 z3] by rw [← hk0, ← hk1, ← hk2, ← hk3]; rfl)
    clear hk0 hk1 hk2 hk3
    generalize wantW st tx = z4 at *
    generalize sinceW st tx = z5 at *
    have MP2 := Lib.hid (show ∀ o : Obj, MapAt Try.prog 3 okI iLit (w.alloc o) wb m (wishF st) from fun o => HT.out.map2.block (Below.heap_alloc w o wb wl))
    have HOK := Lib.hid ht
    go_enter Try.func17, Try.ntmps17
    go_wp2_with (first | (at_delete; refine wpList_del kindInt rfl _ _ 56 rfl 68 Try.underlying56 wb m _ rfl (MP2.out _) tx rfl HOK.out ?_; intro w2 hmap hgr) | fail)
    have hal : Below w.heap.size w (w.alloc (.cells #[.int .u8 z0, .int .u8 z1, .int .u8 z2, .int .u8 z3, .int .i64 z4, .int .i64 z5] 68)) := (Below.refl _ w).alloc (Nat.le_refl _) _
    have hnew : (w.alloc (.cells #[.int .u8 z0, .int .u8 z1, .int .u8 z2, .int .u8 z3, .int .i64 z4, .int .i64 z5] 68)).heap[w.heap.size]? = some (.cells #[.int .u8 z0, .int .u8 z1, .int .u8 z2, .int .u8 z3, .int .i64 z4, .int .i64 z5] 68 (0, 0)) := heap_alloc_new w _
    have hsz : (w.alloc (.cells #[.int .u8 z0, .int .u8 z1, .int .u8 z2, .int .u8 z3, .int .i64 z4, .int .i64 z5] 68)).heap.size = w.heap.size + 1 := by simp
    generalize (w.alloc (.cells #[.int .u8 z0, .int .u8 z1, .int .u8 z2, .int .u8 z3, .int .i64 z4, .int .i64 z5] 68)) = w1 at *
    have hsz2 := hgr.size
    have t2 := Lib.hid ((HT.out.below hal).wishes (wi := upd st.wish tx none) (Nat.le_refl m) hgr (by rw [← wishF_del]; exact hmap))
    have K2 := (hgr.block w.heap.size (by omega) (fun e => by injection e with e; omega)).trans hnew
    have M2 := Lib.hid ((moves_of_below (F := F) hal).trans (moves_of_grown (F := F) hgr fun b e => by injection e with e; rw [← e]; exact HT.out.f3) fun _ e => .inl e)
    obtain ⟨hr1, hr2, hr3⟩ := t2.out.row (k := p.key) trivial
    change RowAt w2 _ (st.row p.key) at hr1
    change (st.row p.key).hs.length + (st.row p.key).ws.length ≤ m at hr2
    obtain ⟨A, n, c, A', n', c', e1, e2, e3⟩ := hr1.parts
    subst e2 e3
    rw [e1] at hr1
    have HR := Lib.hid (And.intro hr1 (And.intro hr2 hr3))
    clear hr1 hr2 hr3
    have c1 := t2.out.c1
    have k0 : w2.cell? ⟨w.heap.size, 0, none⟩ = some (.int .u8 z0) := by simp [World.cell?, K2]
    have k1 : w2.cell? ⟨w.heap.size, 1, none⟩ = some (.int .u8 z1) := by simp [World.cell?, K2]
    have k2 : w2.cell? ⟨w.heap.size, 2, none⟩ = some (.int .u8 z2) := by simp [World.cell?, K2]
    have k3 : w2.cell? ⟨w.heap.size, 3, none⟩ = some (.int .u8 z3) := by simp [World.cell?, K2]
    have hlk : ∀ W : World, W.heap[rb]? = w2.heap[rb]? → (Instr.lookup 55 (.map (some rb)) (.agg #[.int .u8 z0, .int .u8 z1, .int .u8 z2, .int .u8 z3]) false).run Try.prog W = .ok (.agg #[.slice A (st.row p.key).hs.length c, .slice A' (st.row p.key).ws.length c']) W := fun W hW => by rw [← HK.out, ← e1]; exact t2.out.look p.key hW
    have hlk : ∀ W : World, W.heap[rb]? = w2.heap[rb]? → (Instr.lookup 55 (.map (some rb)) (.agg #[.int .u8 z0, .int .u8 z1, .int .u8 z2, .int .u8 z3]) false).run Try.prog W = .ok (.agg #[.slice A (st.row p.key).hs.length c, .slice A' (st.row p.key).ws.length c']) W := fun W hW => by rw [← HK.out, ← e1]; exact t2.out.look p.key hW
    have hlk : ∀ W : World, W.heap[rb]? = w2.heap[rb]? → (Instr.lookup 55 (.map (some rb)) (.agg #[.int .u8 z0, .int .u8 z1, .int .u8 z2, .int .u8 z3]) false).run Try.prog W = .ok (.agg #[.slice A (st.row p.key).hs.length c, .slice A' (st.row p.key).ws.length c']) W := fun W hW => by rw [← HK.out, ← e1]; exact t2.out.look p.key hW
    have hw2 : w.heap.size < w2.heap.size := by omega
    have htl : tb < w2.heap.size := by omega
    have hrl : rb < w2.heap.size := by omega
    have hkl : w.heap.size < w2.heap.size := by omega
    have HROW := Lib.hid (HI.out.ok p.key)
    have HSOME := Lib.hid (show (({ st with wish := upd st.wish tx none } : PS).rows p.key).isSome = true from (HI.out.isSome p.key).2 fun e => by have := HI.out.waits hp; rw [(HI.out.head p.key trivial).nil (by rw [e]; rfl)] at this; cases this)
    have KB := Lib.hid K2
    have HKW := Lib.hid (show ∀ b, (Value.slice A' (st.row p.key).ws.length c').ownBlock = some b → b ≠ w.heap.size from fun b hb e => by have := HT.out.lt _ (HR.out.2.2 b (e1 ▸ ⟨_, _, rfl, .inr hb⟩)).1; omega)
    clear K2 hnew hal hgr hmap
    have hS : ∀ W' : World, Below w2.heap.size w2 W' → (fun W' => W'.cell? ⟨tb, 1, none⟩ = some (.map (some rb)) ∧ W'.cell? ⟨w.heap.size, 0, none⟩ = some (.int .u8 z0) ∧ W'.cell? ⟨w.heap.size, 1, none⟩ = some (.int .u8 z1) ∧ W'.cell? ⟨w.heap.size, 2, none⟩ = some (.int .u8 z2) ∧ W'.cell? ⟨w.heap.size, 3, none⟩ = some (.int .u8 z3) ∧ (Instr.lookup 55 (.map (some rb)) (.agg #[.int .u8 z0, .int .u8 z1, .int .u8 z2, .int .u8 z3]) false).run Try.prog W' = .ok (.agg #[.slice A (st.row p.key).hs.length c, .slice A' (st.row p.key).ws.length c']) W') W' := fun W' hb =>
      ⟨(hb.cell (p := ⟨tb, 1, none⟩) htl).trans c1, (hb.cell (p := ⟨w.heap.size, 0, none⟩) hkl).trans k0, (hb.cell (p := ⟨w.heap.size, 1, none⟩) hkl).trans k1, (hb.cell (p := ⟨w.heap.size, 2, none⟩) hkl).trans k2, (hb.cell (p := ⟨w.heap.size, 3, none⟩) hkl).trans k3, hlk W' (hb.block rb hrl)⟩
    have HSS := Lib.hid hS
    have bd : Below w2.heap.size w2 w2.drew := below_drewN (Below.refl _ w2) 1
    have BD := Lib.hid bd
    clear hS bd
    refine wp_region_noPanic ?_
    refine wp_region_held_drew (S := (fun W' => W'.cell? ⟨tb, 1, none⟩ = some (.map (some rb)) ∧ W'.cell? ⟨w.heap.size, 0, none⟩ = some (.int .u8 z0) ∧ W'.cell? ⟨w.heap.size, 1, none⟩ = some (.int .u8 z1) ∧ W'.cell? ⟨w.heap.size, 2, none⟩ = some (.int .u8 z2) ∧ W'.cell? ⟨w.heap.size, 3, none⟩ = some (.int .u8 z3) ∧ (Instr.lookup 55 (.map (some rb)) (.agg #[.int .u8 z0, .int .u8 z1, .int .u8 z2, .int .u8 z3]) false).run Try.prog W' = .ok (.agg #[.slice A (st.row p.key).hs.length c, .slice A' (st.row p.key).ws.length c']) W')) (by kernel_rfl) (HSS.out _ BD.out) (fun hHeld => ?_)
    refine wpAnyH_take (i := 0) (oi := ⟨some 24, _, _, _, _, _⟩) (v := .pointer (some ⟨tb, 0, none⟩)) rfl (by kernel_rfl) (by kernel_rfl) (by kernel_rfl) (fun _ _ _ h => h) (Or.inl ⟨by rfl, by intro w hSw; obtain ⟨s1, s2, s3, s4, s5, s6⟩ := hSw; go_simp; (try with_reducible rfl)⟩) (by assumption) ?_
    simp only [Act.put, List.setIfInBounds_toArray, List.set_cons_zero, List.set_cons_succ]
    refine wpAnyH_take (i := 1) (oi := ⟨some 25, _, _, _, _, _⟩) (v := .pointer (some ⟨tb, 0, none⟩)) rfl (by kernel_rfl) (by kernel_rfl) (by kernel_rfl) (fun _ _ _ h => h) (Or.inl ⟨by rfl, by intro w hSw; obtain ⟨s1, s2, s3, s4, s5, s6⟩ := hSw; go_simp; (try with_reducible rfl)⟩) (by assumption) ?_
    simp only [Act.put, List.setIfInBounds_toArray, List.set_cons_zero, List.set_cons_succ]
    refine wpAnyH_take (i := 2) (oi := ⟨some 26, _, _, _, _, _⟩) (v := .pointer (some ⟨tb, 1, none⟩)) rfl (by kernel_rfl) (by kernel_rfl) (by kernel_rfl) (fun _ _ _ h => h) (Or.inl ⟨by rfl, by intro w hSw; obtain ⟨s1, s2, s3, s4, s5, s6⟩ := hSw; go_simp; (try with_reducible rfl)⟩) (by assumption) ?_
    simp only [Act.put, List.setIfInBounds_toArray, List.set_cons_zero, List.set_cons_succ]
    refine wpAnyH_take (i := 3) (oi := ⟨some 27, _, _, _, _, _⟩) (v := .map (some rb)) rfl (by kernel_rfl) (by kernel_rfl) (by kernel_rfl) (fun _ _ _ h => h) (Or.inl ⟨by rfl, by intro w hSw; obtain ⟨s1, s2, s3, s4, s5, s6⟩ := hSw; go_simp; (try with_reducible rfl)⟩) (by assumption) ?_
    simp only [Act.put, List.setIfInBounds_toArray, List.set_cons_zero, List.set_cons_succ]
    refine wpAnyH_take (i := 4) (oi := ⟨some 28, _, _, _, _, _⟩) (v := .pointer (some ⟨w.heap.size, 0, none⟩)) rfl (by kernel_rfl) (by kernel_rfl) (by kernel_rfl) (fun _ _ _ h => h) (Or.inl ⟨by rfl, by intro w hSw; obtain ⟨s1, s2, s3, s4, s5, s6⟩ := hSw; go_simp; (try with_reducible rfl)⟩) (by assumption) ?_
    simp only [Act.put, List.setIfInBounds_toArray, List.set_cons_zero, List.set_cons_succ]
    refine wpAnyH_take (i := 5) (oi := ⟨some 29, _, _, _, _, _⟩) (v := .agg #[.int .u8 z0, .int .u8 z1, .int .u8 z2, .int .u8 z3]) rfl (by kernel_rfl) (by kernel_rfl) (by kernel_rfl) (fun _ _ _ h => h) (Or.inl ⟨by rfl, by intro w hSw; obtain ⟨s1, s2, s3, s4, s5, s6⟩ := hSw; go_simp; (try with_reducible rfl)⟩) (by assumption) ?_
    simp only [Act.put, List.setIfInBounds_toArray, List.set_cons_zero, List.set_cons_succ]
    refine wpAnyH_take (i := 6) (oi := ⟨some 30, _, _, _, _, _⟩) (v := .agg #[.slice A (st.row p.key).hs.length c, .slice A' (st.row p.key).ws.length c']) rfl (by kernel_rfl) (by kernel_rfl) (by kernel_rfl) (fun _ _ _ h => h) (Or.inl ⟨by rfl, by intro w hSw; obtain ⟨s1, s2, s3, s4, s5, s6⟩ := hSw; go_simp; (try with_reducible rfl)⟩) (by assumption) ?_
    simp only [Act.put, List.setIfInBounds_toArray, List.set_cons_zero, List.set_cons_succ]
    refine wpAnyH_ready (rs := [7]) (by kernel_rfl) (by simp) ?_
    refine AllReadyH.cons (o := ⟨some 7, _, _, _, _, _⟩) rfl (fun K hK => ?_) AllReadyH.nil
    go_simp
    clear hHeld
    refine hK.out _ _ ?_ (fun hHeld => ?_)
    · exact HSS.out _ (BD.out.alloc (Nat.le_refl _) _)
    clear hK K
    try simp only [Act.put, List.setIfInBounds_toArray, List.set_cons_zero, List.set_cons_succ]
    refine wpAnyH_ready (rs := [8]) (by kernel_rfl) (by simp) ?_
    refine AllReadyH.cons (o := ⟨none, _, _, _, _, _⟩) rfl (fun K hK => ?_) AllReadyH.nil
    go_simp
    clear hHeld
    refine hK.out _ _ ?_ (fun hHeld => ?_)
    · exact HSS.out _ (BD.out.alloc (Nat.le_refl _) _)
    clear hK K
    try simp only [Act.put, List.setIfInBounds_toArray, List.set_cons_zero, List.set_cons_succ]
    refine wpAnyH_done (by kernel_rfl) ?_ _
    refine NoPanic.normal ?_
    clear hHeld
    go_wp2_with fail
    have hB3 : BoxR (w2.alloc (.cells #[.slice A _ c, .slice A' _ c'] 64)).drew w2.heap.size (.slice A _ c) (.slice A' _ c') := BoxR.new w2 (.slice A (st.row p.key).hs.length c) (.slice A' (st.row p.key).ws.length c')
    have b23 : Below w2.heap.size w2 (w2.alloc (.cells #[.slice A (st.row p.key).hs.length c, .slice A' (st.row p.key).ws.length c'] 64)).drew := below_drewN ((Below.refl _ w2).alloc (Nat.le_refl _) _) 1
    have hs3 : (w2.alloc (.cells #[.slice A (st.row p.key).hs.length c, .slice A' (st.row p.key).ws.length c'] 64)).drew.heap.size = w2.heap.size + 1 := World.size_alloc _ _
    generalize (w2.alloc (.cells #[.slice A (st.row p.key).hs.length c, .slice A' (st.row p.key).ws.length c'] 64)).drew = w3 at *
    have HWt := Lib.hid (HR.out.1.wait.below b23)
    have hnew : (Value.slice A' (st.row p.key).ws.length c').ownBlock ≠ some w2.heap.size := fun e => by have := HR.out.1.wait.lt _ e; omega
    have HAP := Lib.hid (show ∀ b, (Value.slice A (st.row p.key).hs.length c).ownBlock = some b → (Value.slice A' (st.row p.key).ws.length c').ownBlock ≠ some b from HR.out.1.apart)
    refine (leave_any w2.heap.size _ _ _ tx w3 hB3 HWt.out hnew).mono ?_
    rintro e w4 ⟨rfl, wv', g1, g2, g3, g4⟩
    obtain ⟨A5, n5, c5, rfl⟩ : ∃ A5 n5 c5, wv' = .slice A5 n5 c5 := by obtain ⟨x, y, z⟩ := g2.isSlice; exact ⟨x, _, y, z⟩
    have hs4 := g4.size
    have hh4 : HoldAt w4 (.slice A (st.row p.key).hs.length c) (st.row p.key).hs := (HR.out.1.hold.below b23).kept fun b hb => g4.block b (by have := HR.out.1.hold.lt b hb; omega) (fun e => e.elim (fun e => by have := HR.out.1.hold.lt b hb; omega) (fun e => HAP.out b hb e))
    have hrow4 : RowAt w4 (.agg #[.slice A (st.row p.key).hs.length c, .slice A5 n5 c5]) ⟨(st.row p.key).hs, leaveW (st.row p.key).ws tx⟩ := ⟨_, _, rfl, hh4, g2, fun b hb hb2 => (g3 b hb2).elim (fun e => HAP.out b hb e) (fun e => by have := HR.out.1.hold.lt b hb; omega)⟩
    have hin4 : ∀ b, BlkOf (.agg #[.slice A (st.row p.key).hs.length c, .slice A5 n5 c5]) b → BlkOf (rowG { st with wish := upd st.wish tx none } g p.key) b ∨ w2.heap.size ≤ b := fun b hb => (blk_agg hb).elim (fun e => .inl (e1 ▸ ⟨_, _, rfl, .inl e⟩)) (fun e => (g3 b e).elim (fun e => .inl (e1 ▸ ⟨_, _, rfl, .inr e⟩)) (fun e => .inr (by omega)))
    have hM4 : Moves (fun b => b = w2.heap.size ∨ (Value.slice A' (st.row p.key).ws.length c').ownBlock = some b) w2 w4 := (moves_of_below b23).trans g4 fun _ e => .inl e
    have hc := goOn_from t2.out hM4 (fun b hb => hb.elim (fun e => .inr (by omega)) (fun e => .inl (e1 ▸ ⟨_, _, rfl, .inr e⟩))) hrow4 hin4 HSOME.out (by have := HR.out.2.1; have := leaveW_len (st.row p.key).ws tx; simp only; exact Nat.le_trans (Nat.add_le_add_left this _) HR.out.2.1) hm (HROW.out.wnd.filter _) (fun t ht => HROW.out.okI t (List.mem_filter.1 ht).1)
    rw [HK.out] at hc
    have KX := (g4.block w.heap.size (by omega) (fun e => e.elim (fun e => by omega) (fun e => HKW.out _ e rfl))).trans ((b23.block w.heap.size (by omega)).trans KB.out)
    have k0' : w4.cell? ⟨w.heap.size, 0, none⟩ = some (.int .u8 z0) := by simp [World.cell?, KX]
    have k1' : w4.cell? ⟨w.heap.size, 1, none⟩ = some (.int .u8 z1) := by simp [World.cell?, KX]
    have k2' : w4.cell? ⟨w.heap.size, 2, none⟩ = some (.int .u8 z2) := by simp [World.cell?, KX]
    have k3' : w4.cell? ⟨w.heap.size, 3, none⟩ = some (.int .u8 z3) := by simp [World.cell?, KX]
    have d0 := g1.c0
    have d1 := g1.c1
    have HC := Lib.hid hc
    clear g1 g2 g3 g4 hh4 hrow4 hin4 hM4 hc KX HSS BD c1 k0 k1 k2 k3
    go_wp2_with fail
    refine HC.out.mono ?_
    rintro e w5 ⟨rfl, h5, m5⟩
    have hE := quit_does (m := m) (r := .bool true) hI'.out (fun b hb => HT.out.lt b hb) M2.out ⟨h5, m5⟩
    go_wp2_with fail
    go_ret
    exact hE
end Go.Proofs.Ytnfodidfhnofkaa
