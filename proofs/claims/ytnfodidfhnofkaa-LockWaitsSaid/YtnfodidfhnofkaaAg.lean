/- Ask of one that holds the key, or waits already: nothing but new memory turns. -/
import Derived.Test.YtnfodidfhnofkaaBo
namespace Go.Proofs.Ytnfodidfhnofkaa
open Go.RowKit Go.Deep Go.Maps
set_option linter.unusedVariables false
set_option linter.unusedSimpArgs false
set_option linter.unusedSectionVars false
set_option linter.unnecessarySimpa false

def AskStill (r : Int) (w : World) (e : Ending) (w' : World) : Prop := e = .returned (.int .i64 r) ∧ Below w.heap.size w w'
set_option maxRecDepth 100000 in
set_option maxHeartbeats 4000000 in
theorem ask_still (F : Nat → Prop) (tb m : Nat) (st st' : PS) (tx now r : Int) (k : KeyT) (ex : Bool) (w : World) (h : LockAt w F tb m st) (hs : askS st tx k ex now = (st', r)) (hst : wantN ex ≤ howH (st.row k).hs tx ∨ (st.wish tx).isSome = true) :
    Calls Try.prog 13 #[.pointer (some ⟨tb, 0, none⟩), .int .i64 tx, KV k, .bool ex, .int .i64 now] w (AskStill r w) := by
  have HST := Lib.hid hst
  clear hst
  have hI := h.1
  have hI' := ask_inv hI tx k ex now
  rw [hs] at hI'
  cases hb : badAsk tx now with
  | true =>
    unfold askS at hs
    rw [if_pos hb] at hs
    cases hs
    refine (ask_bad tb tx now k ex w hb).mono ?_
    rintro e w' ⟨rfl, b⟩
    obtain ⟨_, rb, wb, g, h⟩ := h
    exact ⟨rfl, b⟩
  | false =>
    obtain ⟨_, rb, wb, g, h⟩ := h
    have rl := h.rbl
    have wl := h.wbl
    have tl := h.tbl
    have HR := Lib.hid (h.row (k := k) trivial)
    have HT := Lib.hid h
    obtain ⟨A, n, c, A', n', c', e1, e2, e3⟩ := HR.out.1.parts
    clear e2
    have HE3 := Lib.hid e3
    clear e3
    have hl : ∀ W : World, W.heap[rb]? = w.heap[rb]? → (Instr.lookup 55 (.map (some rb)) (KV k) false).run Try.prog W = .ok (rowG st g k) W := fun W hW => h.look k hW
    have HL := Lib.hid hl
    have hbb := hb
    unfold badAsk at hbb
    simp only [Bool.or_eq_false_iff] at hbb
    obtain ⟨⟨⟨d1, d2⟩, d3⟩, d4⟩ := hbb
    have hok : okI tx := by simp only [decide_eq_false_iff_not] at d1 d2; unfold okI; omega
    have HW := Lib.hid (fun W (hW : W.heap[wb]? = w.heap[wb]?) => h.wish (w' := W) hok hW)
    rw [e1] at HL HR
    have HE1 := Lib.hid e1
    have HI := Lib.hid hI
    have HI' := Lib.hid hI'
    have HS := Lib.hid hs
    have HB := Lib.hid hb
    have hbk := Lib.hid (box_key w (.int .u8 (k.a.val : Int)) (.int .u8 (k.b.val : Int)) (.int .u8 (k.c.val : Int)) (.int .u8 (k.d.val : Int)))
    have HOK := Lib.hid hok
    clear hl h e1 hI hI' hs hb hok
    have HKV : Hid (KV k = KV k) := Lib.hid rfl
    unfold KV kv at HL ⊢
    generalize hk0 : ((k.a.val : Nat) : Int) = b0 at *
    generalize hk1 : ((k.b.val : Nat) : Int) = b1 at *
    generalize hk2 : ((k.c.val : Nat) : Int) = b2 at *
    generalize hk3 : ((k.d.val : Nat) : Int) = b3 at *
    have HK : Hid (KV k = .agg #[.int .u8 b0, .int .u8 b1, .int .u8 b2, .int .u8 b3]) := Lib.hid (by rw [← hk0, ← hk1, ← hk2, ← hk3]; rfl)
    have HWV := Lib.hid (show wishV ⟨k, wantN ex, now⟩ = .agg #[.int .u8 b0, .int .u8 b1, .int .u8 b2, .int .u8 b3, .int .i64 (wantN ex), .int .i64 now] by rw [← hk0, ← hk1, ← hk2, ← hk3]; rfl)
    clear hk0 hk1 hk2 hk3 HKV
    go_enter Try.func13, Try.ntmps13
    go_wp2_with fail
    have hW : Below w.heap.size w (w.alloc (.cells #[.int .u8 b0, .int .u8 b1, .int .u8 b2, .int .u8 b3] 24)) := (Below.refl _ _).alloc (Nat.le_refl _) _
    have hKB : (w.alloc (.cells #[.int .u8 b0, .int .u8 b1, .int .u8 b2, .int .u8 b3] 24)).heap[w.heap.size]? = some (.cells #[.int .u8 b0, .int .u8 b1, .int .u8 b2, .int .u8 b3] 24 (0, 0)) := heap_alloc_new w _
    have hsz : (w.alloc (.cells #[.int .u8 b0, .int .u8 b1, .int .u8 b2, .int .u8 b3] 24)).heap.size = w.heap.size + 1 := by simp
    generalize (w.alloc (.cells #[.int .u8 b0, .int .u8 b1, .int .u8 b2, .int .u8 b3] 24)) = W at *
    have B0 := Lib.hid hW
    have c1 := (HT.out.below hW).c1
    have k0 := hbk.out 0 _ rfl
    have k1 := hbk.out 1 _ rfl
    have k2 := hbk.out 2 _ rfl
    have k3 := hbk.out 3 _ rfl
    have hwl : w.heap.size < W.heap.size := by omega
    have htl : tb < W.heap.size := by omega
    have hS : ∀ W' : World, Below W.heap.size W W' → (W'.cell? ⟨tb, 1, none⟩ = some (.map (some rb)) ∧ W'.cell? ⟨w.heap.size, 0, none⟩ = some (.int .u8 b0) ∧ W'.cell? ⟨w.heap.size, 1, none⟩ = some (.int .u8 b1) ∧ W'.cell? ⟨w.heap.size, 2, none⟩ = some (.int .u8 b2) ∧ W'.cell? ⟨w.heap.size, 3, none⟩ = some (.int .u8 b3)
        ∧ (Instr.lookup 55 (.map (some rb)) (.agg #[.int .u8 b0, .int .u8 b1, .int .u8 b2, .int .u8 b3]) false).run Try.prog W' = .ok (.agg #[.slice A n c, .slice A' n' c']) W') := fun W' hb =>
      ⟨(hb.cell (p := ⟨tb, 1, none⟩) htl).trans c1, (hb.cell (p := ⟨w.heap.size, 0, none⟩) hwl).trans k0, (hb.cell (p := ⟨w.heap.size, 1, none⟩) hwl).trans k1, (hb.cell (p := ⟨w.heap.size, 2, none⟩) hwl).trans k2, (hb.cell (p := ⟨w.heap.size, 3, none⟩) hwl).trans k3, HL.out W' ((hb.block rb (by omega)).trans (hW.block rb rl))⟩
    have HSS := Lib.hid hS
    have bd : Below W.heap.size W W.drew := below_drewN (Below.refl _ W) 1
    have BD := Lib.hid bd
    have hc34 := fun W' => wanted_any ex W'
    clear hW hS bd
    refine wp_region_noPanic ?_
    refine wp_region_held_drew (S := (fun W' => W'.cell? ⟨tb, 1, none⟩ = some (.map (some rb)) ∧ W'.cell? ⟨w.heap.size, 0, none⟩ = some (.int .u8 b0) ∧ W'.cell? ⟨w.heap.size, 1, none⟩ = some (.int .u8 b1) ∧ W'.cell? ⟨w.heap.size, 2, none⟩ = some (.int .u8 b2) ∧ W'.cell? ⟨w.heap.size, 3, none⟩ = some (.int .u8 b3) ∧ (Instr.lookup 55 (.map (some rb)) (.agg #[.int .u8 b0, .int .u8 b1, .int .u8 b2, .int .u8 b3]) false).run Try.prog W' = .ok (.agg #[.slice A n c, .slice A' n' c']) W')) (by kernel_rfl) (HSS.out _ BD.out) (fun hHeld => ?_)
    refine wpAnyH_take (i := 0) (oi := ⟨some 31, _, _, _, _, _⟩) (v := .pointer (some ⟨tb, 0, none⟩)) rfl (by kernel_rfl) (by kernel_rfl) (by kernel_rfl) (fun _ _ _ h => h) (Or.inl ⟨by rfl, by intro w hSw; obtain ⟨s1, s2, s3, s4, s5, s6⟩ := hSw; go_simp; (try with_reducible rfl)⟩) (by assumption) ?_
    simp only [Act.put, List.setIfInBounds_toArray, List.set_cons_zero, List.set_cons_succ]
    refine wpAnyH_take (i := 1) (oi := ⟨some 32, _, _, _, _, _⟩) (v := .pointer (some ⟨tb, 0, none⟩)) rfl (by kernel_rfl) (by kernel_rfl) (by kernel_rfl) (fun _ _ _ h => h) (Or.inl ⟨by rfl, by intro w hSw; obtain ⟨s1, s2, s3, s4, s5, s6⟩ := hSw; go_simp; (try with_reducible rfl)⟩) (by assumption) ?_
    simp only [Act.put, List.setIfInBounds_toArray, List.set_cons_zero, List.set_cons_succ]
    refine wpAnyH_take (i := 2) (oi := ⟨some 33, _, _, _, _, _⟩) (v := .pointer (some ⟨tb, 1, none⟩)) rfl (by kernel_rfl) (by kernel_rfl) (by kernel_rfl) (fun _ _ _ h => h) (Or.inl ⟨by rfl, by intro w hSw; obtain ⟨s1, s2, s3, s4, s5, s6⟩ := hSw; go_simp; (try with_reducible rfl)⟩) (by assumption) ?_
    simp only [Act.put, List.setIfInBounds_toArray, List.set_cons_zero, List.set_cons_succ]
    refine wpAnyH_take (i := 3) (oi := ⟨some 34, _, _, _, _, _⟩) (v := .map (some rb)) rfl (by kernel_rfl) (by kernel_rfl) (by kernel_rfl) (fun _ _ _ h => h) (Or.inl ⟨by rfl, by intro w hSw; obtain ⟨s1, s2, s3, s4, s5, s6⟩ := hSw; go_simp; (try with_reducible rfl)⟩) (by assumption) ?_
    simp only [Act.put, List.setIfInBounds_toArray, List.set_cons_zero, List.set_cons_succ]
    refine wpAnyH_take (i := 4) (oi := ⟨some 35, _, _, _, _, _⟩) (v := .agg #[.int .u8 b0, .int .u8 b1, .int .u8 b2, .int .u8 b3]) rfl (by kernel_rfl) (by kernel_rfl) (by kernel_rfl) (fun _ _ _ h => h) (Or.inl ⟨by rfl, by intro w hSw; obtain ⟨s1, s2, s3, s4, s5, s6⟩ := hSw; go_simp; (try with_reducible rfl)⟩) (by assumption) ?_
    simp only [Act.put, List.setIfInBounds_toArray, List.set_cons_zero, List.set_cons_succ]
    refine wpAnyH_take (i := 5) (oi := ⟨some 36, _, _, _, _, _⟩) (v := .agg #[.slice A n c, .slice A' n' c']) rfl (by kernel_rfl) (by kernel_rfl) (by kernel_rfl) (fun _ _ _ h => h) (Or.inl ⟨by rfl, by intro w hSw; obtain ⟨s1, s2, s3, s4, s5, s6⟩ := hSw; go_simp; (try with_reducible rfl)⟩) (by assumption) ?_
    simp only [Act.put, List.setIfInBounds_toArray, List.set_cons_zero, List.set_cons_succ]
    refine wpAnyH_take (i := 6) (oi := ⟨some 37, _, _, _, _, _⟩) (v := .bool ex) rfl (by kernel_rfl) (by kernel_rfl) (by kernel_rfl) (fun _ _ _ h => h) (Or.inl ⟨by rfl, by intro w hSw; obtain ⟨s1, s2, s3, s4, s5, s6⟩ := hSw; go_simp; (try with_reducible rfl)⟩) (by assumption) ?_
    simp only [Act.put, List.setIfInBounds_toArray, List.set_cons_zero, List.set_cons_succ]
    refine wpAnyH_ready (rs := [7, 8]) (by kernel_rfl) (by simp) ?_
    refine AllReadyH.cons (o := ⟨some 38, _, _, _, _, _⟩) rfl (fun K hK => ?_) (AllReadyH.cons (o := ⟨some 11, _, _, _, _, _⟩) rfl (fun K hK => ?_) AllReadyH.nil)
    go_simp
    go_at_call 34
    refine (hc34 _).mono ?_
    rintro e w' ⟨rfl, rfl⟩
    clear hHeld
    refine hK.out _ _ ?_ (fun hHeld => ?_)
    · exact HSS.out _ BD.out
    clear hK K
    try simp only [Act.put, List.setIfInBounds_toArray, List.set_cons_zero, List.set_cons_succ]
    refine wpAnyH_ready (rs := [8]) (by kernel_rfl) (by simp) ?_
    refine AllReadyH.cons (o := ⟨some 11, _, _, _, _, _⟩) rfl (fun K hK => ?_) AllReadyH.nil
    go_simp
    clear hHeld
    refine hK.out _ _ ?_ (fun hHeld => ?_)
    · exact HSS.out _ (BD.out.alloc (Nat.le_refl _) _)
    clear hK K
    try simp only [Act.put, List.setIfInBounds_toArray, List.set_cons_zero, List.set_cons_succ]
    refine wpAnyH_ready (rs := [9]) (by kernel_rfl) (by simp) ?_
    refine AllReadyH.cons (o := ⟨none, _, _, _, _, _⟩) rfl (fun K hK => ?_) AllReadyH.nil
    go_simp
    clear hHeld
    refine hK.out _ _ ?_ (fun hHeld => ?_)
    · exact HSS.out _ (BD.out.alloc (Nat.le_refl _) _)
    clear hK K
    try simp only [Act.put, List.setIfInBounds_toArray, List.set_cons_zero, List.set_cons_succ]
    refine wpAnyH_take (i := 10) (oi := ⟨some 12, _, _, _, _, _⟩) (v := .int .i64 (wantN ex)) rfl (by kernel_rfl) (by kernel_rfl) (by kernel_rfl) (fun _ _ _ h => h) (Or.inl ⟨by rfl, by intro w hSw; obtain ⟨s1, s2, s3, s4, s5, s6⟩ := hSw; go_simp; (try with_reducible rfl)⟩) (by assumption) ?_
    simp only [Act.put, List.setIfInBounds_toArray, List.set_cons_zero, List.set_cons_succ]
    refine wpAnyH_done (by kernel_rfl) ?_ _
    refine NoPanic.normal ?_
    clear hHeld
    refine ?hcont
    rotate_left
    go_simp
    clear hHeld
    refine hK.out _ _ ?_ (fun hHeld => ?_)
    · exact HSS.out _ (BD.out.alloc (Nat.le_refl _) _)
    clear hK K
    try simp only [Act.put, List.setIfInBounds_toArray, List.set_cons_zero, List.set_cons_succ]
    refine wpAnyH_ready (rs := [7]) (by kernel_rfl) (by simp) ?_
    refine AllReadyH.cons (o := ⟨some 38, _, _, _, _, _⟩) rfl (fun K hK => ?_) AllReadyH.nil
    go_simp
    go_at_call 34
    refine (hc34 _).mono ?_
    rintro e w' ⟨rfl, rfl⟩
    clear hHeld
    refine hK.out _ _ ?_ (fun hHeld => ?_)
    · exact HSS.out _ (BD.out.alloc (Nat.le_refl _) _)
    clear hK K
    try simp only [Act.put, List.setIfInBounds_toArray, List.set_cons_zero, List.set_cons_succ]
    refine wpAnyH_ready (rs := [9]) (by kernel_rfl) (by simp) ?_
    refine AllReadyH.cons (o := ⟨none, _, _, _, _, _⟩) rfl (fun K hK => ?_) AllReadyH.nil
    go_simp
    clear hHeld
    refine hK.out _ _ ?_ (fun hHeld => ?_)
    · exact HSS.out _ (BD.out.alloc (Nat.le_refl _) _)
    clear hK K
    try simp only [Act.put, List.setIfInBounds_toArray, List.set_cons_zero, List.set_cons_succ]
    refine wpAnyH_take (i := 10) (oi := ⟨some 12, _, _, _, _, _⟩) (v := .int .i64 (wantN ex)) rfl (by kernel_rfl) (by kernel_rfl) (by kernel_rfl) (fun _ _ _ h => h) (Or.inl ⟨by rfl, by intro w hSw; obtain ⟨s1, s2, s3, s4, s5, s6⟩ := hSw; go_simp; (try with_reducible rfl)⟩) (by assumption) ?_
    simp only [Act.put, List.setIfInBounds_toArray, List.set_cons_zero, List.set_cons_succ]
    refine wpAnyH_done (by kernel_rfl) ?_ _
    refine NoPanic.normal ?_
    clear hHeld
    refine ?hcont
    go_wp2_with fail
    have hV : Below w.heap.size w (W.alloc (.cells #[.slice A n c, .slice A' n' c'] 64)).drew := below_drewN (B0.out.alloc B0.out.size _) 1
    have hVB : BoxR (W.alloc (.cells #[.slice A n c, .slice A' n' c'] 64)).drew W.heap.size (.slice A n c) (.slice A' n' c') := BoxR.new W _ _
    have hVk : ∀ i v, W.cell? ⟨w.heap.size, i, none⟩ = some v → (W.alloc (.cells #[.slice A n c, .slice A' n' c'] 64)).drew.cell? ⟨w.heap.size, i, none⟩ = some v := fun i v hc => (World.cell?_alloc_lt W _ ⟨w.heap.size, i, none⟩ (by show w.heap.size < W.heap.size; omega)).trans hc
    have k0' := hVk _ _ k0
    have k1' := hVk _ _ k1
    have k2' := hVk _ _ k2
    have k3' := hVk _ _ k3
    have hKV : (W.alloc (.cells #[.slice A n c, .slice A' n' c'] 64)).drew.heap[w.heap.size]? = some (.cells #[.int .u8 b0, .int .u8 b1, .int .u8 b2, .int .u8 b3] 24 (0, 0)) := (Below.heap_alloc W _ _ (by omega)).trans hKB
    have hVs : (W.alloc (.cells #[.slice A n c, .slice A' n' c'] 64)).drew.heap.size = w.heap.size + 2 := by show (W.alloc _).heap.size = _; rw [World.size_alloc, hsz]
    generalize (W.alloc (.cells #[.slice A n c, .slice A' n' c'] 64)).drew = V at *
    clear hVk c1 k0 k1 k2 k3 hKB HSS BD hc34
    have BV := Lib.hid hV
    have VB := Lib.hid hVB
    obtain ⟨hq, hqe⟩ : ∃ q, howH (st.row k).hs tx = q := ⟨_, rfl⟩
    have HH := Lib.hid (HR.out.1.hold.below hV)
    have HWt := Lib.hid (HR.out.1.wait.below hV)
    rw [hsz] at hVB
    clear hV
    refine (how_any _ (.slice A' n' c') _ tx hq V HH.out hqe).mono ?_
    rintro e w1 ⟨rfl, hb1⟩
    have B1 := Lib.hid (BV.out.trans (hb1.mono BV.out.size))
    have VB1 := Lib.hid (hVB.below hb1)
    have HQ := Lib.hid hqe
    have hc2 := (HT.out.below B1.out).c2
    have hc1 := (HT.out.below B1.out).c1
    have hkc : ∀ i v, V.cell? ⟨w.heap.size, i, none⟩ = some v → w1.cell? ⟨w.heap.size, i, none⟩ = some v := fun i v hc => (hb1.cell (p := ⟨w.heap.size, i, none⟩) (by show w.heap.size < V.heap.size; omega)).trans hc
    have k0 := hkc _ _ k0'
    have k1 := hkc _ _ k1'
    have k2 := hkc _ _ k2'
    have k3 := hkc _ _ k3'
    have KB1 := Lib.hid (show w1.heap[w.heap.size]? = some (.cells #[.int .u8 b0, .int .u8 b1, .int .u8 b2, .int .u8 b3] 24 (0, 0)) from (hb1.block _ (by omega)).trans hKV)
    have hw1s : w.heap.size + 2 ≤ w1.heap.size := by have := hb1.size; omega
    have hkl : w.heap.size < w1.heap.size := by omega
    have hrl : w.heap.size + 1 < w1.heap.size := by omega
    have tl1 : tb < w1.heap.size := by omega
    have hwish := HW.out w1 (B1.out.block wb wl)
    have hv0 := VB1.out.c0
    have hv1 := VB1.out.c1
    clear hkc k0' k1' k2' k3' hb1 hqe hVB hVs hKV
    by_cases hge : wantN ex ≤ hq
    · have hg : decide (wantN ex ≤ hq) = true := by simpa using hge
      have hS := HS.out
      unfold askS at hS
      rw [HB.out, HQ.out, if_pos hge] at hS
      simp only [Bool.false_eq_true, if_false, Prod.mk.injEq] at hS
      obtain ⟨rfl, rfl⟩ := hS
      clear hge
      go_wp2_with fail
      go_ret
      exact ⟨rfl, B1.out⟩
    · have hg : decide (wantN ex ≤ hq) = false := by simpa using hge
      have HGE := Lib.hid hge
      clear hge
      rw [(wish_parts st tx).1, (wish_parts st tx).2] at hwish
      have hS := HS.out
      unfold askS at hS
      rw [HB.out, HQ.out, if_neg HGE.out] at hS
      simp only [Bool.false_eq_true, if_false] at hS
      cases hwt : st.wish tx with
      | some p =>
        rw [hwt] at hS hwish
        simp only [Prod.mk.injEq] at hS
        obtain ⟨rfl, rfl⟩ := hS
        have hp : KV k = .agg #[.int .u8 b0, .int .u8 b1, .int .u8 b2, .int .u8 b3] := HK.out
        have hcall := fun W => refusal_any p k W
        rw [hp] at hcall
        have e1 : keyW st tx = p.key := by simp [keyW, hwt]
        have e2 : wantW st tx = p.want := by simp [wantW, hwt]
        have e3 : sinceW st tx = p.since := by simp [sinceW, hwt]
        rw [e1, e2, e3] at hwish
        unfold wishV at hcall
        unfold kv at hcall hwish
        simp only [List.cons_append, List.nil_append] at hcall hwish
        clear e1 e2 e3 hp hwt
        generalize (if p.key = k then (17 : Int) else 13) = r at *
        generalize ((p.key.a.val : Nat) : Int) = z0 at *
        generalize ((p.key.b.val : Nat) : Int) = z1 at *
        generalize ((p.key.c.val : Nat) : Int) = z2 at *
        generalize ((p.key.d.val : Nat) : Int) = z3 at *
        generalize p.want = z4 at *
        generalize p.since = z5 at *
        have HC := Lib.hid hcall
        clear hcall
        go_wp2_with fail
        refine (HC.out _).mono ?_
        rintro e w2 ⟨rfl, hb2⟩
        have B2 := Lib.hid (B1.out.trans (((Below.refl _ w1).alloc (Nat.le_refl _) (.cells #[.int .u8 z0, .int .u8 z1, .int .u8 z2, .int .u8 z3, .int .i64 z4, .int .i64 z5] 68)).trans (hb2.mono (by simp)) |>.mono B1.out.size))
        clear hb2
        go_wp2_with fail
        go_ret
        exact ⟨rfl, B2.out⟩
      | none =>
        rcases HST.out with e | e
        · rw [HQ.out] at e; exact absurd e HGE.out
        · rw [hwt] at e; cases e
end Go.Proofs.Ytnfodidfhnofkaa
