/- lock: Ask. -/
import Derived.Test.YtnfodidfhnofkaaBn
namespace Go.Proofs.Ytnfodidfhnofkaa
open Go.RowKit Go.Deep Go.Maps
set_option linter.unusedVariables false
set_option linter.unusedSimpArgs false
set_option linter.unusedSectionVars false
set_option linter.unnecessarySimpa false

set_option maxRecDepth 100000 in
set_option maxHeartbeats 1000000 in
theorem ask_bad (tb : Nat) (tx now : Int) (k : KeyT) (ex : Bool) (w : World) (hb : badAsk tx now = true) :
    Calls Try.prog 13 #[.pointer (some ⟨tb, 0, none⟩), .int .i64 tx, KV k, .bool ex, .int .i64 now] w fun e w' => e = .returned (.int .i64 11) ∧ Below w.heap.size w w' := by
  unfold badAsk at hb
  unfold KV kv
  generalize ((k.a.val : Nat) : Int) = b0
  generalize ((k.b.val : Nat) : Int) = b1
  generalize ((k.c.val : Nat) : Int) = b2
  generalize ((k.d.val : Nat) : Int) = b3
  cases d1 : decide (tx < 1) with
  | true =>
    go_enter Try.func13, Try.ntmps13
    go_wp2
    go_ret
    exact ⟨rfl, (Below.refl _ _).alloc (Nat.le_refl _) _⟩
  | false =>
    cases d2 : decide (1048576 < tx) with
    | true =>
      go_enter Try.func13, Try.ntmps13
      go_wp2
      go_ret
      exact ⟨rfl, (Below.refl _ _).alloc (Nat.le_refl _) _⟩
    | false =>
      cases d3 : decide (now < 0) with
      | true =>
        go_enter Try.func13, Try.ntmps13
        go_wp2
        go_ret
        exact ⟨rfl, (Below.refl _ _).alloc (Nat.le_refl _) _⟩
      | false =>
        have d4 : decide (1099511627776 < now) = true := by rw [d1, d2, d3] at hb; simpa using hb
        clear hb
        go_enter Try.func13, Try.ntmps13
        go_wp2
        go_ret
        exact ⟨rfl, (Below.refl _ _).alloc (Nat.le_refl _) _⟩
/-- The row is stored, in a table of which all but that row is in order. -/
theorem TabIn.stored {w w3 w4 : World} {F G : Nat → Prop} {tb rb wb : Nat} {g : KeyT → Value} {m m' : Nat} {st : PS} {k : KeyT} {v : Value} {r : PRow} (h : TabIn w F tb rb wb g m (fun k' => True ∧ k' ≠ k) st) (hm : Moves G w w3) (hd : ∀ b, F b → ¬ G b) (hr : RowAt w3 v r) (hvd : ∀ b, BlkOf v b → ¬ F b)
    (hl : r.hs.length + r.ws.length ≤ m') (hmm : m ≤ m') (hgm : grown m (rowF st g k) ≤ m') (hg : w3.grownBy w4 (some rb)) (hmap : MapAt Try.prog 24 (fun _ => True) kLit w4 rb (grown m (rowF st g k)) (updM (rowF st g) k (some v))) :
    TabIn w4 (fun b => F b ∨ BlkOf v b) tb rb wb (upd g k v) m' (fun _ => True) { st with rows := upd st.rows k (some r) } := by
  have h3 := (h.moves hm hd).put hr hl hmm hvd hg (hmap.mono hgm)
  exact { h3 with rows := fun k' r' _ hr' => h3.rows k' r' (by by_cases e : k' = k; exact .inr e; exact .inl trivial) hr', sep := fun k1 k2 r1 r2 _ _ => h3.sep k1 k2 r1 r2 (by by_cases e : k1 = k; exact .inr e; exact .inl trivial) (by by_cases e : k2 = k; exact .inr e; exact .inl trivial) }
theorem grown_le (m : Nat) (o : Option Value) : grown m o ≤ m + 1 := by unfold grown; split <;> omega
theorem blk_agg {hv wv : Value} {b : Nat} (h : BlkOf (.agg #[hv, wv]) b) : hv.ownBlock = some b ∨ wv.ownBlock = some b := by
  obtain ⟨hv', wv', e, h⟩ := h
  simp only [Value.agg.injEq, Array.mk.injEq, List.cons.injEq, and_true] at e
  obtain ⟨rfl, rfl⟩ := e
  exact h
/-- A table all of whose rows but one are in order, the row itself in a box, turned. -/
theorem ask_end {w w3 w4 : World} {F G : Nat → Prop} {tb rb wb : Nat} {g : KeyT → Value} {m m' : Nat} {st : PS} {k : KeyT} {hv' wv' : Value} {r : PRow} (h : TabIn w F tb rb wb g m (fun _ => True) st) (hm : Moves G w w3) (hG : ∀ b, G b → F b → BlkOf (rowG st g k) b)
    (hh : HoldAt w3 hv' r.hs) (hw : WaitAt w3 wv' r.ws) (hb1 : ∀ b, hv'.ownBlock = some b → BlkOf (rowG st g k) b ∨ w.heap.size ≤ b) (hb2 : ∀ b, wv'.ownBlock = some b → BlkOf (rowG st g k) b ∨ w.heap.size ≤ b) (hne : ∀ b, hv'.ownBlock = some b → wv'.ownBlock ≠ some b)
    (hl : r.hs.length + r.ws.length ≤ m') (hmm : m + 1 ≤ m') (hg : w3.grownBy w4 (some rb)) (hmap : MapAt Try.prog 24 (fun _ => True) kLit w4 rb (grown m (rowF st g k)) (updM (rowF st g) k (some (.agg #[hv', wv'])))) :
    (∃ g', TabIn w4 (grow F w w4) tb rb wb g' m' (fun _ => True) { st with rows := upd st.rows k (some r) }) ∧ Moves (fun b => F b ∨ G b) w w4 := by
  have hb := h.but (k := k) trivial
  have hrow : RowAt w3 (.agg #[hv', wv']) r := ⟨_, _, rfl, hh, hw, hne⟩
  have hin : ∀ b, BlkOf (.agg #[hv', wv']) b → BlkOf (rowG st g k) b ∨ w.heap.size ≤ b := fun b hx => (blk_agg hx).elim (hb1 b) (hb2 b)
  have hs := hb.stored hm (fun b hF hGb => hF.2 (hG b hGb hF.1)) hrow (fun b hx hF => (hin b hx).elim hF.2 (fun y => by have := h.lt b hF.1; omega)) hl (by omega) (Nat.le_trans (grown_le _ _) hmm) hg hmap
  have hsz := hm.size
  have hsz2 := hg.size
  refine ⟨⟨_, hs.more (fun b hx => ?_) (fun b hx => ?_)⟩, ?_⟩
  · rcases hx with hx | hx
    · exact .inl hx.1
    · rcases hin b hx with y | y
      · exact .inl ((h.row (k := k) trivial).2.2 b y).1
      · exact .inr ⟨y, Nat.lt_of_lt_of_le (hrow.lt hx) hsz2⟩
  · exact hx.elim (fun y => Nat.lt_of_lt_of_le (h.lt b y) (by omega)) (·.2)
  · exact (hm.mono fun b y => .inr y).trans (moves_of_grown (F := fun b => F b ∨ G b) hg fun b e => .inl (by injection e with e; rw [← e]; exact h.f2)) fun b y => .inl y
theorem queueW_len (hs : List (Int × Int)) (ws : List Int) (tx : Int) : (queueW hs ws tx).length = ws.length + 1 := by
  have h : queueAt hs ws tx ≤ ws.length := by
    unfold queueAt
    split
    · exact Nat.le_refl _
    · exact placeOf_le _ _
  unfold queueW
  simp
  omega
theorem ask_does {w w4 : World} {F G : Nat → Prop} {tb rb wb m' : Nat} {st' : PS} {r : Int} (hI : Inv st') (h : (∃ g', TabIn w4 (grow F w w4) tb rb wb g' m' (fun _ => True) st') ∧ Moves (fun b => F b ∨ G b) w w4) (hF : ∀ b, F b → b < w.heap.size) (hG : ∀ b, G b → F b ∨ w.heap.size ≤ b) : Does F tb m' st' (.int .i64 r) w (.returned (.int .i64 r)) w4 := by
  obtain ⟨⟨g', h1⟩, h2⟩ := h
  refine ⟨rfl, ⟨hI, rb, wb, g', h1⟩, ⟨h2.os, h2.tape, h2.output, h2.size, fun b hb hn => h2.block b hb (fun e => e.elim hn (fun e => (hG b e).elim hn (fun e => by omega)))⟩⟩
theorem ask_does2 {w w0 w4 : World} {F G : Nat → Prop} {tb rb wb m' : Nat} {st' : PS} {r : Int} (hI : Inv st') (h : (∃ g', TabIn w4 (grow F w0 w4) tb rb wb g' m' (fun _ => True) st') ∧ Moves (fun b => F b ∨ G b) w0 w4) (hm : Moves F w w0) (hF : ∀ b, F b → b < w.heap.size) (hG : ∀ b, G b → F b ∨ w.heap.size ≤ b) : Does F tb m' st' (.int .i64 r) w (.returned (.int .i64 r)) w4 := by
  obtain ⟨⟨g', h1⟩, h2⟩ := h
  have hs := hm.size
  have hs2 := h2.size
  refine ⟨rfl, ⟨hI, rb, wb, g', h1.more (fun b hb => hb.imp id fun e => ⟨by omega, e.2⟩) (fun b hb => hb.elim (fun e => Nat.lt_of_lt_of_le (hF b e) (by omega)) (·.2))⟩, hm.trans (F' := fun b => F b ∨ w.heap.size ≤ b) ⟨h2.os, h2.tape, h2.output, h2.size, fun b hb hn => h2.block b hb (fun e => hn (e.elim .inl (hG b)))⟩ fun b hb => hb⟩
set_option maxRecDepth 100000 in
set_option maxHeartbeats 2000000 in
theorem ask_any (F : Nat → Prop) (tb m : Nat) (st st' : PS) (tx now r : Int) (k : KeyT) (ex : Bool) (w : World) (h : LockAt w F tb m st) (hm : m ≤ 1000) (hs : askS st tx k ex now = (st', r)) :
    Calls Try.prog 13 #[.pointer (some ⟨tb, 0, none⟩), .int .i64 tx, KV k, .bool ex, .int .i64 now] w (Does F tb (m + 2) st' (.int .i64 r) w) := by
  have hI := h.1
  have hI' := ask_inv hI tx k ex now
  rw [hs] at hI'
  cases hb : badAsk tx now with
  | true =>
    unfold askS at hs
    rw [if_pos hb] at hs
    cases hs
    refine (ask_bad tb tx now k ex w hb).mono ?_
    rintro e w' ⟨rfl, b⟩
    obtain ⟨_, rb, wb, g, h⟩ := h
    exact ⟨rfl, ⟨hI, rb, wb, g, ((h.below b).mono (Nat.le_add_right m 2)).more (fun x hx => .inl hx) (fun x hx => hx.elim (fun y => Nat.lt_of_lt_of_le (h.lt x y) b.size) (·.2))⟩, moves_of_below b⟩
  | false =>
    obtain ⟨_, rb, wb, g, h⟩ := h
    have rl := h.rbl
    have wl := h.wbl
    have tl := h.tbl
    have HR := Lib.hid (h.row (k := k) trivial)
    have HT := Lib.hid h
    obtain ⟨A, n, c, A', n', c', e1, e2, e3⟩ := HR.out.1.parts
    clear e2
    have HE3 := Lib.hid e3
    clear e3
    have hl : ∀ W : World, W.heap[rb]? = w.heap[rb]? → (Instr.lookup 55 (.map (some rb)) (KV k) false).run Try.prog W = .ok (rowG st g k) W := fun W hW => h.look k hW
    have HL := Lib.hid hl
    have hbb := hb
    unfold badAsk at hbb
    simp only [Bool.or_eq_false_iff] at hbb
    obtain ⟨⟨⟨d1, d2⟩, d3⟩, d4⟩ := hbb
    have hok : okI tx := by simp only [decide_eq_false_iff_not] at d1 d2; unfold okI; omega
    have HW := Lib.hid (fun W (hW : W.heap[wb]? = w.heap[wb]?) => h.wish (w' := W) hok hW)
    rw [e1] at HL HR
    have HE1 := Lib.hid e1
    have HI := Lib.hid hI
    have HI' := Lib.hid hI'
    have HS := Lib.hid hs
    have HB := Lib.hid hb
    have hbk := Lib.hid (box_key w (.int .u8 (k.a.val : Int)) (.int .u8 (k.b.val : Int)) (.int .u8 (k.c.val : Int)) (.int .u8 (k.d.val : Int)))
    have HOK := Lib.hid hok
    clear hl h e1 hI hI' hs hb hok
    have HKV : Hid (KV k = KV k) := Lib.hid rfl
    unfold KV kv at HL ⊢
    generalize hk0 : ((k.a.val : Nat) : Int) = b0 at *
    generalize hk1 : ((k.b.val : Nat) : Int) = b1 at *
    generalize hk2 : ((k.c.val : Nat) : Int) = b2 at *
    generalize hk3 : ((k.d.val : Nat) : Int) = b3 at *
    have HK : Hid (KV k = .agg #[.int .u8 b0, .int .u8 b1, .int .u8 b2, .int .u8 b3]) := Lib.hid (by rw [← hk0, ← hk1, ← hk2, ← hk3]; rfl)
    have HWV := Lib.hid (show wishV ⟨k, wantN ex, now⟩ = .agg #[.int .u8 b0, .int .u8 b1, .int .u8 b2, .int .u8 b3, .int .i64 (wantN ex), .int .i64 now] by rw [← hk0, ← hk1, ← hk2, ← hk3]; rfl)
    clear hk0 hk1 hk2 hk3 HKV
    go_enter Try.func13, Try.ntmps13
    go_wp2_with fail
    have hW : Below w.heap.size w (w.alloc (.cells #[.int .u8 b0, .int .u8 b1, .int .u8 b2, .int .u8 b3] 24)) := (Below.refl _ _).alloc (Nat.le_refl _) _
    have hKB : (w.alloc (.cells #[.int .u8 b0, .int .u8 b1, .int .u8 b2, .int .u8 b3] 24)).heap[w.heap.size]? = some (.cells #[.int .u8 b0, .int .u8 b1, .int .u8 b2, .int .u8 b3] 24 (0, 0)) := heap_alloc_new w _
    have hsz : (w.alloc (.cells #[.int .u8 b0, .int .u8 b1, .int .u8 b2, .int .u8 b3] 24)).heap.size = w.heap.size + 1 := by simp
    generalize (w.alloc (.cells #[.int .u8 b0, .int .u8 b1, .int .u8 b2, .int .u8 b3] 24)) = W at *
    have B0 := Lib.hid hW
    have c1 := (HT.out.below hW).c1
    have k0 := hbk.out 0 _ rfl
    have k1 := hbk.out 1 _ rfl
    have k2 := hbk.out 2 _ rfl
    have k3 := hbk.out 3 _ rfl
    have hwl : w.heap.size < W.heap.size := by omega
    have htl : tb < W.heap.size := by omega
    have hS : ∀ W' : World, Below W.heap.size W W' → (W'.cell? ⟨tb, 1, none⟩ = some (.map (some rb)) ∧ W'.cell? ⟨w.heap.size, 0, none⟩ = some (.int .u8 b0) ∧ W'.cell? ⟨w.heap.size, 1, none⟩ = some (.int .u8 b1) ∧ W'.cell? ⟨w.heap.size, 2, none⟩ = some (.int .u8 b2) ∧ W'.cell? ⟨w.heap.size, 3, none⟩ = some (.int .u8 b3)
        ∧ (Instr.lookup 55 (.map (some rb)) (.agg #[.int .u8 b0, .int .u8 b1, .int .u8 b2, .int .u8 b3]) false).run Try.prog W' = .ok (.agg #[.slice A n c, .slice A' n' c']) W') := fun W' hb =>
      ⟨(hb.cell (p := ⟨tb, 1, none⟩) htl).trans c1, (hb.cell (p := ⟨w.heap.size, 0, none⟩) hwl).trans k0, (hb.cell (p := ⟨w.heap.size, 1, none⟩) hwl).trans k1, (hb.cell (p := ⟨w.heap.size, 2, none⟩) hwl).trans k2, (hb.cell (p := ⟨w.heap.size, 3, none⟩) hwl).trans k3, HL.out W' ((hb.block rb (by omega)).trans (hW.block rb rl))⟩
    have HSS := Lib.hid hS
    have bd : Below W.heap.size W W.drew := below_drewN (Below.refl _ W) 1
    have BD := Lib.hid bd
    have hc34 := fun W' => wanted_any ex W'
    clear hW hS bd
    refine wp_region_noPanic ?_
    refine wp_region_held_drew (S := (fun W' => W'.cell? ⟨tb, 1, none⟩ = some (.map (some rb)) ∧ W'.cell? ⟨w.heap.size, 0, none⟩ = some (.int .u8 b0) ∧ W'.cell? ⟨w.heap.size, 1, none⟩ = some (.int .u8 b1) ∧ W'.cell? ⟨w.heap.size, 2, none⟩ = some (.int .u8 b2) ∧ W'.cell? ⟨w.heap.size, 3, none⟩ = some (.int .u8 b3) ∧ (Instr.lookup 55 (.map (some rb)) (.agg #[.int .u8 b0, .int .u8 b1, .int .u8 b2, .int .u8 b3]) false).run Try.prog W' = .ok (.agg #[.slice A n c, .slice A' n' c']) W')) (by kernel_rfl) (HSS.out _ BD.out) (fun hHeld => ?_)
    refine wpAnyH_take (i := 0) (oi := ⟨some 31, _, _, _, _, _⟩) (v := .pointer (some ⟨tb, 0, none⟩)) rfl (by kernel_rfl) (by kernel_rfl) (by kernel_rfl) (fun _ _ _ h => h) (Or.inl ⟨by rfl, by intro w hSw; obtain ⟨s1, s2, s3, s4, s5, s6⟩ := hSw; go_simp; (try with_reducible rfl)⟩) (by assumption) ?_
    simp only [Act.put, List.setIfInBounds_toArray, List.set_cons_zero, List.set_cons_succ]
    refine wpAnyH_take (i := 1) (oi := ⟨some 32, _, _, _, _, _⟩) (v := .pointer (some ⟨tb, 0, none⟩)) rfl (by kernel_rfl) (by kernel_rfl) (by kernel_rfl) (fun _ _ _ h => h) (Or.inl ⟨by rfl, by intro w hSw; obtain ⟨s1, s2, s3, s4, s5, s6⟩ := hSw; go_simp; (try with_reducible rfl)⟩) (by assumption) ?_
    simp only [Act.put, List.setIfInBounds_toArray, List.set_cons_zero, List.set_cons_succ]
    refine wpAnyH_take (i := 2) (oi := ⟨some 33, _, _, _, _, _⟩) (v := .pointer (some ⟨tb, 1, none⟩)) rfl (by kernel_rfl) (by kernel_rfl) (by kernel_rfl) (fun _ _ _ h => h) (Or.inl ⟨by rfl, by intro w hSw; obtain ⟨s1, s2, s3, s4, s5, s6⟩ := hSw; go_simp; (try with_reducible rfl)⟩) (by assumption) ?_
    simp only [Act.put, List.setIfInBounds_toArray, List.set_cons_zero, List.set_cons_succ]
    refine wpAnyH_take (i := 3) (oi := ⟨some 34, _, _, _, _, _⟩) (v := .map (some rb)) rfl (by kernel_rfl) (by kernel_rfl) (by kernel_rfl) (fun _ _ _ h => h) (Or.inl ⟨by rfl, by intro w hSw; obtain ⟨s1, s2, s3, s4, s5, s6⟩ := hSw; go_simp; (try with_reducible rfl)⟩) (by assumption) ?_
    simp only [Act.put, List.setIfInBounds_toArray, List.set_cons_zero, List.set_cons_succ]
    refine wpAnyH_take (i := 4) (oi := ⟨some 35, _, _, _, _, _⟩) (v := .agg #[.int .u8 b0, .int .u8 b1, .int .u8 b2, .int .u8 b3]) rfl (by kernel_rfl) (by kernel_rfl) (by kernel_rfl) (fun _ _ _ h => h) (Or.inl ⟨by rfl, by intro w hSw; obtain ⟨s1, s2, s3, s4, s5, s6⟩ := hSw; go_simp; (try with_reducible rfl)⟩) (by assumption) ?_
    simp only [Act.put, List.setIfInBounds_toArray, List.set_cons_zero, List.set_cons_succ]
    refine wpAnyH_take (i := 5) (oi := ⟨some 36, _, _, _, _, _⟩) (v := .agg #[.slice A n c, .slice A' n' c']) rfl (by kernel_rfl) (by kernel_rfl) (by kernel_rfl) (fun _ _ _ h => h) (Or.inl ⟨by rfl, by intro w hSw; obtain ⟨s1, s2, s3, s4, s5, s6⟩ := hSw; go_simp; (try with_reducible rfl)⟩) (by assumption) ?_
    simp only [Act.put, List.setIfInBounds_toArray, List.set_cons_zero, List.set_cons_succ]
    refine wpAnyH_take (i := 6) (oi := ⟨some 37, _, _, _, _, _⟩) (v := .bool ex) rfl (by kernel_rfl) (by kernel_rfl) (by kernel_rfl) (fun _ _ _ h => h) (Or.inl ⟨by rfl, by intro w hSw; obtain ⟨s1, s2, s3, s4, s5, s6⟩ := hSw; go_simp; (try with_reducible rfl)⟩) (by assumption) ?_
    simp only [Act.put, List.setIfInBounds_toArray, List.set_cons_zero, List.set_cons_succ]
    refine wpAnyH_ready (rs := [7, 8]) (by kernel_rfl) (by simp) ?_
    refine AllReadyH.cons (o := ⟨some 38, _, _, _, _, _⟩) rfl (fun K hK => ?_) (AllReadyH.cons (o := ⟨some 11, _, _, _, _, _⟩) rfl (fun K hK => ?_) AllReadyH.nil)
    go_simp
    go_at_call 34
    refine (hc34 _).mono ?_
    rintro e w' ⟨rfl, rfl⟩
    clear hHeld
    refine hK.out _ _ ?_ (fun hHeld => ?_)
    · exact HSS.out _ BD.out
    clear hK K
    try simp only [Act.put, List.setIfInBounds_toArray, List.set_cons_zero, List.set_cons_succ]
    refine wpAnyH_ready (rs := [8]) (by kernel_rfl) (by simp) ?_
    refine AllReadyH.cons (o := ⟨some 11, _, _, _, _, _⟩) rfl (fun K hK => ?_) AllReadyH.nil
    go_simp
    clear hHeld
    refine hK.out _ _ ?_ (fun hHeld => ?_)
    · exact HSS.out _ (BD.out.alloc (Nat.le_refl _) _)
    clear hK K
    try simp only [Act.put, List.setIfInBounds_toArray, List.set_cons_zero, List.set_cons_succ]
    refine wpAnyH_ready (rs := [9]) (by kernel_rfl) (by simp) ?_
    refine AllReadyH.cons (o := ⟨none, _, _, _, _, _⟩) rfl (fun K hK => ?_) AllReadyH.nil
    go_simp
    clear hHeld
    refine hK.out _ _ ?_ (fun hHeld => ?_)
    · exact HSS.out _ (BD.out.alloc (Nat.le_refl _) _)
    clear hK K
    try simp only [Act.put, List.setIfInBounds_toArray, List.set_cons_zero, List.set_cons_succ]
    refine wpAnyH_take (i := 10) (oi := ⟨some 12, _, _, _, _, _⟩) (v := .int .i64 (wantN ex)) rfl (by kernel_rfl) (by kernel_rfl) (by kernel_rfl) (fun _ _ _ h => h) (Or.inl ⟨by rfl, by intro w hSw; obtain ⟨s1, s2, s3, s4, s5, s6⟩ := hSw; go_simp; (try with_reducible rfl)⟩) (by assumption) ?_
    simp only [Act.put, List.setIfInBounds_toArray, List.set_cons_zero, List.set_cons_succ]
    refine wpAnyH_done (by kernel_rfl) ?_ _
    refine NoPanic.normal ?_
    clear hHeld
    refine ?hcont
    rotate_left
    go_simp
    clear hHeld
    refine hK.out _ _ ?_ (fun hHeld => ?_)
    · exact HSS.out _ (BD.out.alloc (Nat.le_refl _) _)
    clear hK K
    try simp only [Act.put, List.setIfInBounds_toArray, List.set_cons_zero, List.set_cons_succ]
    refine wpAnyH_ready (rs := [7]) (by kernel_rfl) (by simp) ?_
    refine AllReadyH.cons (o := ⟨some 38, _, _, _, _, _⟩) rfl (fun K hK => ?_) AllReadyH.nil
    go_simp
    go_at_call 34
    refine (hc34 _).mono ?_
    rintro e w' ⟨rfl, rfl⟩
    clear hHeld
    refine hK.out _ _ ?_ (fun hHeld => ?_)
    · exact HSS.out _ (BD.out.alloc (Nat.le_refl _) _)
    clear hK K
    try simp only [Act.put, List.setIfInBounds_toArray, List.set_cons_zero, List.set_cons_succ]
    refine wpAnyH_ready (rs := [9]) (by kernel_rfl) (by simp) ?_
    refine AllReadyH.cons (o := ⟨none, _, _, _, _, _⟩) rfl (fun K hK => ?_) AllReadyH.nil
    go_simp
    clear hHeld
    refine hK.out _ _ ?_ (fun hHeld => ?_)
    · exact HSS.out _ (BD.out.alloc (Nat.le_refl _) _)
    clear hK K
    try simp only [Act.put, List.setIfInBounds_toArray, List.set_cons_zero, List.set_cons_succ]
    refine wpAnyH_take (i := 10) (oi := ⟨some 12, _, _, _, _, _⟩) (v := .int .i64 (wantN ex)) rfl (by kernel_rfl) (by kernel_rfl) (by kernel_rfl) (fun _ _ _ h => h) (Or.inl ⟨by rfl, by intro w hSw; obtain ⟨s1, s2, s3, s4, s5, s6⟩ := hSw; go_simp; (try with_reducible rfl)⟩) (by assumption) ?_
    simp only [Act.put, List.setIfInBounds_toArray, List.set_cons_zero, List.set_cons_succ]
    refine wpAnyH_done (by kernel_rfl) ?_ _
    refine NoPanic.normal ?_
    clear hHeld
    refine ?hcont
    go_wp2_with fail
    have hV : Below w.heap.size w (W.alloc (.cells #[.slice A n c, .slice A' n' c'] 64)).drew := below_drewN (B0.out.alloc B0.out.size _) 1
    have hVB : BoxR (W.alloc (.cells #[.slice A n c, .slice A' n' c'] 64)).drew W.heap.size (.slice A n c) (.slice A' n' c') := BoxR.new W _ _
    have hVk : ∀ i v, W.cell? ⟨w.heap.size, i, none⟩ = some v → (W.alloc (.cells #[.slice A n c, .slice A' n' c'] 64)).drew.cell? ⟨w.heap.size, i, none⟩ = some v := fun i v hc => (World.cell?_alloc_lt W _ ⟨w.heap.size, i, none⟩ (by show w.heap.size < W.heap.size; omega)).trans hc
    have k0' := hVk _ _ k0
    have k1' := hVk _ _ k1
    have k2' := hVk _ _ k2
    have k3' := hVk _ _ k3
    have hKV : (W.alloc (.cells #[.slice A n c, .slice A' n' c'] 64)).drew.heap[w.heap.size]? = some (.cells #[.int .u8 b0, .int .u8 b1, .int .u8 b2, .int .u8 b3] 24 (0, 0)) := (Below.heap_alloc W _ _ (by omega)).trans hKB
    have hVs : (W.alloc (.cells #[.slice A n c, .slice A' n' c'] 64)).drew.heap.size = w.heap.size + 2 := by show (W.alloc _).heap.size = _; rw [World.size_alloc, hsz]
    generalize (W.alloc (.cells #[.slice A n c, .slice A' n' c'] 64)).drew = V at *
    clear hVk c1 k0 k1 k2 k3 hKB HSS BD hc34
    have BV := Lib.hid hV
    have VB := Lib.hid hVB
    obtain ⟨hq, hqe⟩ : ∃ q, howH (st.row k).hs tx = q := ⟨_, rfl⟩
    have HH := Lib.hid (HR.out.1.hold.below hV)
    have HWt := Lib.hid (HR.out.1.wait.below hV)
    rw [hsz] at hVB
    clear hV
    refine (how_any _ (.slice A' n' c') _ tx hq V HH.out hqe).mono ?_
    rintro e w1 ⟨rfl, hb1⟩
    have B1 := Lib.hid (BV.out.trans (hb1.mono BV.out.size))
    have VB1 := Lib.hid (hVB.below hb1)
    have HQ := Lib.hid hqe
    have hc2 := (HT.out.below B1.out).c2
    have hc1 := (HT.out.below B1.out).c1
    have hkc : ∀ i v, V.cell? ⟨w.heap.size, i, none⟩ = some v → w1.cell? ⟨w.heap.size, i, none⟩ = some v := fun i v hc => (hb1.cell (p := ⟨w.heap.size, i, none⟩) (by show w.heap.size < V.heap.size; omega)).trans hc
    have k0 := hkc _ _ k0'
    have k1 := hkc _ _ k1'
    have k2 := hkc _ _ k2'
    have k3 := hkc _ _ k3'
    have KB1 := Lib.hid (show w1.heap[w.heap.size]? = some (.cells #[.int .u8 b0, .int .u8 b1, .int .u8 b2, .int .u8 b3] 24 (0, 0)) from (hb1.block _ (by omega)).trans hKV)
    have hw1s : w.heap.size + 2 ≤ w1.heap.size := by have := hb1.size; omega
    have hkl : w.heap.size < w1.heap.size := by omega
    have hrl : w.heap.size + 1 < w1.heap.size := by omega
    have tl1 : tb < w1.heap.size := by omega
    have hwish := HW.out w1 (B1.out.block wb wl)
    have hv0 := VB1.out.c0
    have hv1 := VB1.out.c1
    clear hkc k0' k1' k2' k3' hb1 hqe hVB hVs hKV
    by_cases hge : wantN ex ≤ hq
    · have hg : decide (wantN ex ≤ hq) = true := by simpa using hge
      have hS := HS.out
      unfold askS at hS
      rw [HB.out, HQ.out, if_pos hge] at hS
      simp only [Bool.false_eq_true, if_false, Prod.mk.injEq] at hS
      obtain ⟨rfl, rfl⟩ := hS
      clear hge
      go_wp2_with fail
      go_ret
      exact ⟨rfl, ⟨HI.out, rb, wb, g, ((HT.out.below B1.out).mono (Nat.le_add_right m 2)).more (fun x hx => .inl hx) (fun x hx => hx.elim (fun y => Nat.lt_of_lt_of_le (HT.out.lt x y) B1.out.size) (·.2))⟩, moves_of_below B1.out⟩
    · have hg : decide (wantN ex ≤ hq) = false := by simpa using hge
      have HGE := Lib.hid hge
      clear hge
      rw [(wish_parts st tx).1, (wish_parts st tx).2] at hwish
      have hS := HS.out
      unfold askS at hS
      rw [HB.out, HQ.out, if_neg HGE.out] at hS
      simp only [Bool.false_eq_true, if_false] at hS
      cases hwt : st.wish tx with
      | some p =>
        rw [hwt] at hS hwish
        simp only [Prod.mk.injEq] at hS
        obtain ⟨rfl, rfl⟩ := hS
        have hp : KV k = .agg #[.int .u8 b0, .int .u8 b1, .int .u8 b2, .int .u8 b3] := HK.out
        have hcall := fun W => refusal_any p k W
        rw [hp] at hcall
        have e1 : keyW st tx = p.key := by simp [keyW, hwt]
        have e2 : wantW st tx = p.want := by simp [wantW, hwt]
        have e3 : sinceW st tx = p.since := by simp [sinceW, hwt]
        rw [e1, e2, e3] at hwish
        unfold wishV at hcall
        unfold kv at hcall hwish
        simp only [List.cons_append, List.nil_append] at hcall hwish
        clear e1 e2 e3 hp hwt
        generalize (if p.key = k then (17 : Int) else 13) = r at *
        generalize ((p.key.a.val : Nat) : Int) = z0 at *
        generalize ((p.key.b.val : Nat) : Int) = z1 at *
        generalize ((p.key.c.val : Nat) : Int) = z2 at *
        generalize ((p.key.d.val : Nat) : Int) = z3 at *
        generalize p.want = z4 at *
        generalize p.since = z5 at *
        have HC := Lib.hid hcall
        clear hcall
        go_wp2_with fail
        refine (HC.out _).mono ?_
        rintro e w2 ⟨rfl, hb2⟩
        have B2 := Lib.hid (B1.out.trans (((Below.refl _ w1).alloc (Nat.le_refl _) (.cells #[.int .u8 z0, .int .u8 z1, .int .u8 z2, .int .u8 z3, .int .i64 z4, .int .i64 z5] 68)).trans (hb2.mono (by simp)) |>.mono B1.out.size))
        clear hb2
        go_wp2_with fail
        go_ret
        exact ⟨rfl, ⟨HI.out, rb, wb, g, ((HT.out.below B2.out).mono (Nat.le_add_right m 2)).more (fun x hx => .inl hx) (fun x hx => hx.elim (fun y => Nat.lt_of_lt_of_le (HT.out.lt x y) B2.out.size) (·.2))⟩, moves_of_below B2.out⟩
      | none =>
        rw [hwt] at hS hwish
        have ez : (kv (keyW st tx) ++ [Value.int .i64 (wantW st tx), Value.int .i64 (sinceW st tx)]).toArray = #[.int .u8 0, .int .u8 0, .int .u8 0, .int .u8 0, .int .i64 0, .int .i64 0] := by simp [keyW, wantW, sinceW, hwt, kv]
        rw [ez] at hwish
        have HWT := Lib.hid hwt
        simp only [] at hS
        clear ez hwt
        obtain ⟨q, hqm⟩ : ∃ q, mayH (st.row k).hs tx (wantN ex) = q := ⟨_, rfl⟩
        rw [hqm] at hS
        have HM := Lib.hid hqm
        clear hqm
        have HS2 := Lib.hid hS
        clear hS
        go_wp2_with fail
        have hb2 : Below w1.heap.size w1 (w1.alloc (.cells #[.int .u8 0, .int .u8 0, .int .u8 0, .int .u8 0, .int .i64 0, .int .i64 0] 68)) := (Below.refl _ w1).alloc (Nat.le_refl _) _
        generalize (w1.alloc (.cells #[.int .u8 0, .int .u8 0, .int .u8 0, .int .u8 0, .int .i64 0, .int .i64 0] 68)) = w2 at *
        have B2 := Lib.hid (B1.out.trans (hb2.mono B1.out.size))
        have VB2 := Lib.hid (VB1.out.below hb2)
        have KB2 := Lib.hid ((hb2.block _ hkl).trans KB1.out)
        clear hb2 hwish
        refine (may_any _ (.slice A' n' c') _ tx (wantN ex) q w2 (HR.out.1.hold.below B2.out) HM.out).mono ?_
        rintro e w3 ⟨rfl, hb3⟩
        have B3 := Lib.hid (B2.out.trans (hb3.mono B2.out.size))
        have VB3 := Lib.hid (VB2.out.below hb3)
        have KB3 := Lib.hid ((hb3.block _ (by have := VB2.out.lt; omega)).trans KB2.out)
        have hv1' := VB3.out.c1
        have hlt3 := VB3.out.lt
        clear hb3 hv0 hv1 k0 k1 k2 k3 hc1 hc2 B1 VB1 KB1 B2 VB2 KB2 hkl hrl tl1 hw1s
        obtain ⟨rs, hrs⟩ : ∃ b, (hq != 0) = b := ⟨_, rfl⟩
        obtain ⟨ln, hln⟩ : ∃ b, ((n' : Int) == 0) = b := ⟨_, rfl⟩
        have hcond : (q && (decide (hq ≠ 0) || decide ((st.row k).ws.length = 0))) = (q && (rs || ln)) := by
          rw [← hrs, ← hln, HE3.out]
          congr 1
          congr 1
          · by_cases h : hq = 0 <;> simp [h]
          · by_cases h : (st.row k).ws.length = 0 <;> simp [h]
        have HS3 := Lib.hid (show (if (q && (rs || ln)) = true then _ else _) = _ from hcond ▸ HS2.out)
        have hneh : (Value.slice A n c).ownBlock ≠ some (w.heap.size + 1) := fun e => by have := HR.out.1.hold.lt _ e; omega
        have hnew : (Value.slice A' n' c').ownBlock ≠ some (w.heap.size + 1) := fun e => by have := HR.out.1.wait.lt _ e; omega
        have hlh : (st.row k).hs.length ≤ 10000 := by have := HR.out.2.1; omega
        have hlw : (st.row k).ws.length ≤ 10000 := by have := HR.out.2.1; omega
        have hapart : ∀ b, (Value.slice A n c).ownBlock = some b → (Value.slice A' n' c').ownBlock ≠ some b := by
          obtain ⟨hv0, wv0, e0, _, _, h0⟩ := HR.out.1
          simp only [Value.agg.injEq, Array.mk.injEq, List.cons.injEq, and_true] at e0
          obtain ⟨rfl, rfl⟩ := e0
          exact h0
        clear hcond HS2 hg HGE HM
        cases q with
        | false =>
          have v0 := VB3.out.c0
          have c2 := (HT.out.below B3.out).c2
          have hB3s := B3.out.size
          have KBX := KB3.out
          have k0 : w3.cell? ⟨w.heap.size, 0, none⟩ = some (.int .u8 b0) := by simp [World.cell?, KBX]
          have k1 : w3.cell? ⟨w.heap.size, 1, none⟩ = some (.int .u8 b1) := by simp [World.cell?, KBX]
          have k2 : w3.cell? ⟨w.heap.size, 2, none⟩ = some (.int .u8 b2) := by simp [World.cell?, KBX]
          have k3 : w3.cell? ⟨w.heap.size, 3, none⟩ = some (.int .u8 b3) := by simp [World.cell?, KBX]
          clear KBX
          have MP2 := Lib.hid (show MapAt Try.prog 3 okI iLit w3.drew wb m (wishF st) from HT.out.map2.block (B3.out.block wb wl))
          have hlk : w.heap.size < w3.heap.size := by omega
          go_wp2_with fail
          go_still_tail 9, (by kernel_rfl)
          change wpList _ _ _ _ _ w3.drew
          go_wp2_with (first | (at_mapUpdate; refine wpList_put kindInt rfl _ _ _ 56 rfl 68 Try.underlying56 wb m (wishF st) rfl MP2.out (by unfold maxLen; omega) tx (wishV ⟨k, wantN ex, now⟩) rfl HOK.out HWV.out.symm ?_; intro w4 hmap2 hgr2; have HMP2 := Lib.hid hmap2; have HGR2 := Lib.hid hgr2; clear hmap2 hgr2) | fail)
          have HT2 := Lib.hid (show TabIn w4 F tb rb wb g (m + 1) (fun _ => True) { st with wish := upd st.wish tx (some ⟨k, wantN ex, now⟩) } from ((HT.out.below B3.out).moves (moves_of_below (F := fun _ => False) (below_drewN (Below.refl _ w3) 1)) (fun _ _ e => e)).wishes (Nat.le_succ m) HGR2.out (by rw [← wishF_upd]; exact HMP2.out.mono (grown_le _ _)))
          have hwbk : ∀ b, b < w3.heap.size → b ≠ wb → w4.heap[b]? = w3.heap[b]? := fun b hb hne => (HGR2.out.block b hb (fun e => hne (by injection e)))
          have hs4 : w3.heap.size ≤ w4.heap.size := HGR2.out.size
          have VB4 := Lib.hid (VB3.out.kept (hwbk _ VB3.out.lt (by omega)))
          have KB4 := Lib.hid ((hwbk _ hlk (by omega)).trans KB3.out)
          have hrw4 : RowAt w4 (.agg #[.slice A n c, .slice A' n' c']) (st.row k) := (HR.out.1.kept fun b hb => B3.out.block b (HR.out.1.lt hb)).kept fun b hb => hwbk b (Nat.lt_of_lt_of_le (HR.out.1.lt hb) hB3s) (HR.out.2.2 b hb).2.2.2
          have HRW := Lib.hid hrw4
          have hlt4 := VB4.out.lt
          clear hrw4 v0 c2 k0 k1 k2 k3 hv1' hlt3
          go_wp2_with fail
          refine (queue_any (w.heap.size + 1) _ _ _ _ tx w4 VB4.out HRW.out.hold HRW.out.wait hnew hlw).mono ?_
          rintro e w5 ⟨rfl, wv', g1, g2, g3, g4⟩
          obtain ⟨A5, n5, c5, rfl⟩ : ∃ A5 n5 c5, wv' = .slice A5 n5 c5 := by obtain ⟨x, y, z⟩ := g2.isSlice; exact ⟨x, _, y, z⟩
          have hs5 : w4.heap.size ≤ w5.heap.size := g4.size
          have hno : ∀ b, b < w.heap.size → (F b → ¬ BlkOf (.agg #[.slice A n c, .slice A' n' c']) b) → F b → ¬ (b = w.heap.size + 1 ∨ (Value.slice A' n' c').ownBlock = some b) := fun b hb hx hF e => e.elim (fun e => by omega) (fun e => hx hF ⟨_, _, rfl, .inr e⟩)
          have KB5 := Lib.hid ((g4.block w.heap.size (by omega) (fun e => e.elim (fun e => by omega) (fun e => by have := HR.out.1.wait.lt _ e; omega))).trans KB4.out)
          have c1 : w5.cell? ⟨tb, 1, none⟩ = some (.map (some rb)) := (World.cell?_of_block (a := ⟨tb, 1, none⟩) (g4.block tb (HT2.out.lt _ HT2.out.f1) (fun e => e.elim (fun e => by omega) (fun e => (HR.out.2.2 tb ⟨_, _, rfl, .inr e⟩).2.1 rfl)))).trans HT2.out.c1
          have MP := Lib.hid (show MapAt Try.prog 24 (fun _ => True) kLit w5.drew rb (m + 1) (rowF { st with wish := upd st.wish tx (some ⟨k, wantN ex, now⟩) } g) from HT2.out.map1.block (g4.block rb (HT2.out.lt _ HT2.out.f2) (fun e => e.elim (fun e => by omega) (fun e => (HR.out.2.2 rb ⟨_, _, rfl, .inr e⟩).2.2.1 rfl))))
          have M5 := Lib.hid (show Moves (fun b => b = w.heap.size + 1 ∨ (Value.slice A' n' c').ownBlock = some b) w4 w5.drew from g4.trans (moves_of_below (below_drewN (Below.refl _ w5) 1)) fun _ h => .inl h)
          have G2 := Lib.hid (show WaitAt w5.drew _ _ from g2.kept fun _ _ => rfl)
          have G3 := Lib.hid g3
          have hh5 : HoldAt w5 (.slice A n c) (st.row k).hs := HRW.out.hold.kept fun b hb => g4.block b (HRW.out.hold.lt b hb) (fun e => e.elim (fun e => by have := HR.out.1.hold.lt b hb; omega) (fun e => hapart b hb e))
          have G4 := Lib.hid (show HoldAt w5.drew _ _ from hh5.kept fun _ _ => rfl)
          have v0 := g1.c0
          have v1 := g1.c1
          have KBX := KB5.out
          have k0 : w5.cell? ⟨w.heap.size, 0, none⟩ = some (.int .u8 b0) := by simp [World.cell?, KBX]
          have k1 : w5.cell? ⟨w.heap.size, 1, none⟩ = some (.int .u8 b1) := by simp [World.cell?, KBX]
          have k2 : w5.cell? ⟨w.heap.size, 2, none⟩ = some (.int .u8 b2) := by simp [World.cell?, KBX]
          have k3 : w5.cell? ⟨w.heap.size, 3, none⟩ = some (.int .u8 b3) := by simp [World.cell?, KBX]
          clear KBX
          clear g1 g2 g3 g4 hh5 hno hlt4 hwbk
          go_wp2_with fail
          go_still_tail 6, (by kernel_rfl)
          change wpList _ _ _ _ _ w5.drew
          go_wp2_with (first | (at_mapUpdate; refine wpList_put kindKey rfl _ _ _ 55 rfl 64 Try.underlying55 rb (m + 1) _ rfl MP.out (by unfold maxLen; omega) k (.agg #[.slice A n c, .slice A5 n5 c5]) HK.out.symm trivial rfl ?_; intro w6 hmap hgr) | fail)
          go_ret
          have hfin := HS3.out
          rw [if_neg (by simp)] at hfin
          cases hfin
          have hE := ask_end (m' := m + 2) (r := ⟨(st.row k).hs, queueW (st.row k).hs (st.row k).ws tx⟩) HT2.out M5.out (fun b hGb hFb => hGb.elim (fun e => by have := HT.out.lt b hFb; omega) (fun e => (show BlkOf (rowG st g k) b from HE1.out ▸ ⟨_, _, rfl, .inr e⟩))) G4.out G2.out (fun b hb => .inl (show BlkOf (rowG st g k) b from HE1.out ▸ ⟨_, _, rfl, .inl hb⟩)) (fun b hb => (G3.out b hb).elim (fun e => .inl (show BlkOf (rowG st g k) b from HE1.out ▸ ⟨_, _, rfl, .inr e⟩)) (fun e => .inr e.1)) (fun b hb hb2 => (G3.out b hb2).elim (fun e => hapart b hb e) (fun e => by have := HR.out.1.hold.lt b hb; omega)) (by have := HR.out.2.1; simp only [queueW_len]; omega) (by omega) hgr hmap
          have M0 : Moves F w w4 := ((moves_of_below B3.out).trans (moves_of_below (below_drewN (Below.refl _ w3) 1)) fun _ h => .inl h).trans (moves_of_grown HGR2.out fun b e => by injection e with e; rw [← e]; exact HT.out.f3) fun _ h => .inl h
          exact ask_does2 HI'.out hE M0 (fun b hb => HT.out.lt b hb) (fun b hb => hb.elim (fun e => .inr (by omega)) (fun e => .inl (HR.out.2.2 b ⟨_, _, rfl, .inr e⟩).1))
        | true =>
          cases rs with
          | true =>
            go_wp2_with fail
            refine (grant_any (w.heap.size + 1) _ _ _ tx (wantN ex) w3 VB3.out (HR.out.1.hold.below B3.out) hneh hlh).mono ?_
            rintro e w4 ⟨rfl, hv', g1, g2, g3, g4⟩
            obtain ⟨A4, n4, c4, rfl⟩ : ∃ A4 n4 c4, hv' = .slice A4 n4 c4 := by obtain ⟨x, y, z⟩ := g2.isSlice; exact ⟨x, _, y, z⟩
            have hlk : w.heap.size < w3.heap.size := by have := VB3.out.lt; omega
            have KB4 := Lib.hid ((g4.block w.heap.size hlk (fun e => e.elim (fun e => by omega) (fun e => by have := HR.out.1.hold.lt _ e; omega))).trans KB3.out)
            have c1 : w4.cell? ⟨tb, 1, none⟩ = some (.map (some rb)) := (World.cell?_of_block (a := ⟨tb, 1, none⟩) (g4.block tb (Nat.lt_of_lt_of_le tl B3.out.size) (fun e => e.elim (fun e => by omega) (fun e => (HR.out.2.2 tb ⟨_, _, rfl, .inl e⟩).2.1 rfl)))).trans (HT.out.below B3.out).c1
            have hrbb := (g4.block rb (Nat.lt_of_lt_of_le rl B3.out.size) (fun e => e.elim (fun e => by omega) (fun e => (HR.out.2.2 rb ⟨_, _, rfl, .inl e⟩).2.2.1 rfl))).trans (B3.out.block rb rl)
            have MP := Lib.hid (show MapAt Try.prog 24 (fun _ => True) kLit w4.drew rb m (rowF st g) from HT.out.map1.block hrbb)
            have M4 := Lib.hid (show Moves (fun b => b = w.heap.size + 1 ∨ (Value.slice A n c).ownBlock = some b) w w4.drew from ((moves_of_below B3.out).trans g4 fun _ h => .inl h).trans (moves_of_below (below_drewN (Below.refl _ w4) 1)) fun _ h => .inl h)
            have G2 := Lib.hid (show HoldAt w4.drew _ _ from g2.kept fun _ _ => rfl)
            have G3 := Lib.hid g3
            have hwt4 : WaitAt w4 (.slice A' n' c') (st.row k).ws := (HR.out.1.wait.below B3.out).kept fun b hb => g4.block b (Nat.lt_of_lt_of_le (HR.out.1.wait.lt b hb) B3.out.size) (fun e => e.elim (fun e => by have := HR.out.1.wait.lt b hb; omega) (fun e => hapart b e hb))
            have G4 := Lib.hid (show WaitAt w4.drew _ _ from hwt4.kept fun _ _ => rfl)
            have v0 := g1.c0
            have v1 := g1.c1
            have hs4 : w3.heap.size ≤ w4.heap.size := g4.size
            have hB3s := B3.out.size
            have KBX := KB4.out
            have k0 : w4.cell? ⟨w.heap.size, 0, none⟩ = some (.int .u8 b0) := by simp [World.cell?, KBX]
            have k1 : w4.cell? ⟨w.heap.size, 1, none⟩ = some (.int .u8 b1) := by simp [World.cell?, KBX]
            have k2 : w4.cell? ⟨w.heap.size, 2, none⟩ = some (.int .u8 b2) := by simp [World.cell?, KBX]
            have k3 : w4.cell? ⟨w.heap.size, 3, none⟩ = some (.int .u8 b3) := by simp [World.cell?, KBX]
            clear KBX
            clear g1 g2 g3 g4 hwt4 hrbb hv1' hlt3
            go_wp2_with fail
            go_still_tail 6, (by kernel_rfl)
            change wpList _ _ _ _ _ w4.drew
            go_wp2_with (first | (at_mapUpdate; refine wpList_put kindKey rfl _ _ _ 55 rfl 64 Try.underlying55 rb m (rowF st g) rfl MP.out (by unfold maxLen; omega) k (.agg #[.slice A4 n4 c4, .slice A' n' c']) HK.out.symm trivial rfl ?_; intro w5 hmap hgr) | fail)
            go_ret
            have hfin := HS3.out
            rw [if_pos (by simp)] at hfin
            cases hfin
            have hE := ask_end (m' := m + 2) (r := ⟨grantH (st.row k).hs tx (wantN ex), (st.row k).ws⟩) HT.out M4.out (fun b hGb hFb => hGb.elim (fun e => by have := HT.out.lt b hFb; omega) (fun e => HE1.out ▸ ⟨_, _, rfl, .inl e⟩)) G2.out G4.out (fun b hb => (G3.out b hb).elim (fun e => .inl (HE1.out ▸ ⟨_, _, rfl, .inl e⟩)) (fun e => .inr (by omega))) (fun b hb => .inl (HE1.out ▸ ⟨_, _, rfl, .inr hb⟩)) (fun b hb hb2 => (G3.out b hb).elim (fun e => hapart b e hb2) (fun e => by have := HR.out.1.wait.lt b hb2; omega)) (by have := HR.out.2.1; have := grant_len (st.row k).hs tx (wantN ex); simp only; omega) (by omega) hgr hmap
            exact ask_does HI'.out hE (fun b hb => HT.out.lt b hb) (fun b hb => hb.elim (fun e => .inr (by omega)) (fun e => .inl (HR.out.2.2 b ⟨_, _, rfl, .inl e⟩).1))
          | false =>
            cases ln with
            | true =>
              go_wp2_with fail
              refine (grant_any (w.heap.size + 1) _ _ _ tx (wantN ex) w3 VB3.out (HR.out.1.hold.below B3.out) hneh hlh).mono ?_
              rintro e w4 ⟨rfl, hv', g1, g2, g3, g4⟩
              obtain ⟨A4, n4, c4, rfl⟩ : ∃ A4 n4 c4, hv' = .slice A4 n4 c4 := by obtain ⟨x, y, z⟩ := g2.isSlice; exact ⟨x, _, y, z⟩
              have hlk : w.heap.size < w3.heap.size := by have := VB3.out.lt; omega
              have KB4 := Lib.hid ((g4.block w.heap.size hlk (fun e => e.elim (fun e => by omega) (fun e => by have := HR.out.1.hold.lt _ e; omega))).trans KB3.out)
              have c1 : w4.cell? ⟨tb, 1, none⟩ = some (.map (some rb)) := (World.cell?_of_block (a := ⟨tb, 1, none⟩) (g4.block tb (Nat.lt_of_lt_of_le tl B3.out.size) (fun e => e.elim (fun e => by omega) (fun e => (HR.out.2.2 tb ⟨_, _, rfl, .inl e⟩).2.1 rfl)))).trans (HT.out.below B3.out).c1
              have hrbb := (g4.block rb (Nat.lt_of_lt_of_le rl B3.out.size) (fun e => e.elim (fun e => by omega) (fun e => (HR.out.2.2 rb ⟨_, _, rfl, .inl e⟩).2.2.1 rfl))).trans (B3.out.block rb rl)
              have MP := Lib.hid (show MapAt Try.prog 24 (fun _ => True) kLit w4.drew rb m (rowF st g) from HT.out.map1.block hrbb)
              have M4 := Lib.hid (show Moves (fun b => b = w.heap.size + 1 ∨ (Value.slice A n c).ownBlock = some b) w w4.drew from ((moves_of_below B3.out).trans g4 fun _ h => .inl h).trans (moves_of_below (below_drewN (Below.refl _ w4) 1)) fun _ h => .inl h)
              have G2 := Lib.hid (show HoldAt w4.drew _ _ from g2.kept fun _ _ => rfl)
              have G3 := Lib.hid g3
              have hwt4 : WaitAt w4 (.slice A' n' c') (st.row k).ws := (HR.out.1.wait.below B3.out).kept fun b hb => g4.block b (Nat.lt_of_lt_of_le (HR.out.1.wait.lt b hb) B3.out.size) (fun e => e.elim (fun e => by have := HR.out.1.wait.lt b hb; omega) (fun e => hapart b e hb))
              have G4 := Lib.hid (show WaitAt w4.drew _ _ from hwt4.kept fun _ _ => rfl)
              have v0 := g1.c0
              have v1 := g1.c1
              have hs4 : w3.heap.size ≤ w4.heap.size := g4.size
              have hB3s := B3.out.size
              have KBX := KB4.out
              have k0 : w4.cell? ⟨w.heap.size, 0, none⟩ = some (.int .u8 b0) := by simp [World.cell?, KBX]
              have k1 : w4.cell? ⟨w.heap.size, 1, none⟩ = some (.int .u8 b1) := by simp [World.cell?, KBX]
              have k2 : w4.cell? ⟨w.heap.size, 2, none⟩ = some (.int .u8 b2) := by simp [World.cell?, KBX]
              have k3 : w4.cell? ⟨w.heap.size, 3, none⟩ = some (.int .u8 b3) := by simp [World.cell?, KBX]
              clear KBX
              clear g1 g2 g3 g4 hwt4 hrbb hv1' hlt3
              go_wp2_with fail
              go_still_tail 6, (by kernel_rfl)
              change wpList _ _ _ _ _ w4.drew
              go_wp2_with (first | (at_mapUpdate; refine wpList_put kindKey rfl _ _ _ 55 rfl 64 Try.underlying55 rb m (rowF st g) rfl MP.out (by unfold maxLen; omega) k (.agg #[.slice A4 n4 c4, .slice A' n' c']) HK.out.symm trivial rfl ?_; intro w5 hmap hgr) | fail)
              go_ret
              have hfin := HS3.out
              rw [if_pos (by simp)] at hfin
              cases hfin
              have hE := ask_end (m' := m + 2) (r := ⟨grantH (st.row k).hs tx (wantN ex), (st.row k).ws⟩) HT.out M4.out (fun b hGb hFb => hGb.elim (fun e => by have := HT.out.lt b hFb; omega) (fun e => HE1.out ▸ ⟨_, _, rfl, .inl e⟩)) G2.out G4.out (fun b hb => (G3.out b hb).elim (fun e => .inl (HE1.out ▸ ⟨_, _, rfl, .inl e⟩)) (fun e => .inr (by omega))) (fun b hb => .inl (HE1.out ▸ ⟨_, _, rfl, .inr hb⟩)) (fun b hb hb2 => (G3.out b hb).elim (fun e => hapart b e hb2) (fun e => by have := HR.out.1.wait.lt b hb2; omega)) (by have := HR.out.2.1; have := grant_len (st.row k).hs tx (wantN ex); simp only; omega) (by omega) hgr hmap
              exact ask_does HI'.out hE (fun b hb => HT.out.lt b hb) (fun b hb => hb.elim (fun e => .inr (by omega)) (fun e => .inl (HR.out.2.2 b ⟨_, _, rfl, .inl e⟩).1))
            | false =>
              have v0 := VB3.out.c0
              have c2 := (HT.out.below B3.out).c2
              have hB3s := B3.out.size
              have KBX := KB3.out
              have k0 : w3.cell? ⟨w.heap.size, 0, none⟩ = some (.int .u8 b0) := by simp [World.cell?, KBX]
              have k1 : w3.cell? ⟨w.heap.size, 1, none⟩ = some (.int .u8 b1) := by simp [World.cell?, KBX]
              have k2 : w3.cell? ⟨w.heap.size, 2, none⟩ = some (.int .u8 b2) := by simp [World.cell?, KBX]
              have k3 : w3.cell? ⟨w.heap.size, 3, none⟩ = some (.int .u8 b3) := by simp [World.cell?, KBX]
              clear KBX
              have MP2 := Lib.hid (show MapAt Try.prog 3 okI iLit w3.drew wb m (wishF st) from HT.out.map2.block (B3.out.block wb wl))
              have hlk : w.heap.size < w3.heap.size := by omega
              go_wp2_with fail
              go_still_tail 9, (by kernel_rfl)
              change wpList _ _ _ _ _ w3.drew
              go_wp2_with (first | (at_mapUpdate; refine wpList_put kindInt rfl _ _ _ 56 rfl 68 Try.underlying56 wb m (wishF st) rfl MP2.out (by unfold maxLen; omega) tx (wishV ⟨k, wantN ex, now⟩) rfl HOK.out HWV.out.symm ?_; intro w4 hmap2 hgr2; have HMP2 := Lib.hid hmap2; have HGR2 := Lib.hid hgr2; clear hmap2 hgr2) | fail)
              have HT2 := Lib.hid (show TabIn w4 F tb rb wb g (m + 1) (fun _ => True) { st with wish := upd st.wish tx (some ⟨k, wantN ex, now⟩) } from ((HT.out.below B3.out).moves (moves_of_below (F := fun _ => False) (below_drewN (Below.refl _ w3) 1)) (fun _ _ e => e)).wishes (Nat.le_succ m) HGR2.out (by rw [← wishF_upd]; exact HMP2.out.mono (grown_le _ _)))
              have hwbk : ∀ b, b < w3.heap.size → b ≠ wb → w4.heap[b]? = w3.heap[b]? := fun b hb hne => (HGR2.out.block b hb (fun e => hne (by injection e)))
              have hs4 : w3.heap.size ≤ w4.heap.size := HGR2.out.size
              have VB4 := Lib.hid (VB3.out.kept (hwbk _ VB3.out.lt (by omega)))
              have KB4 := Lib.hid ((hwbk _ hlk (by omega)).trans KB3.out)
              have hrw4 : RowAt w4 (.agg #[.slice A n c, .slice A' n' c']) (st.row k) := (HR.out.1.kept fun b hb => B3.out.block b (HR.out.1.lt hb)).kept fun b hb => hwbk b (Nat.lt_of_lt_of_le (HR.out.1.lt hb) hB3s) (HR.out.2.2 b hb).2.2.2
              have HRW := Lib.hid hrw4
              have hlt4 := VB4.out.lt
              clear hrw4 v0 c2 k0 k1 k2 k3 hv1' hlt3
              go_wp2_with fail
              refine (queue_any (w.heap.size + 1) _ _ _ _ tx w4 VB4.out HRW.out.hold HRW.out.wait hnew hlw).mono ?_
              rintro e w5 ⟨rfl, wv', g1, g2, g3, g4⟩
              obtain ⟨A5, n5, c5, rfl⟩ : ∃ A5 n5 c5, wv' = .slice A5 n5 c5 := by obtain ⟨x, y, z⟩ := g2.isSlice; exact ⟨x, _, y, z⟩
              have hs5 : w4.heap.size ≤ w5.heap.size := g4.size
              have hno : ∀ b, b < w.heap.size → (F b → ¬ BlkOf (.agg #[.slice A n c, .slice A' n' c']) b) → F b → ¬ (b = w.heap.size + 1 ∨ (Value.slice A' n' c').ownBlock = some b) := fun b hb hx hF e => e.elim (fun e => by omega) (fun e => hx hF ⟨_, _, rfl, .inr e⟩)
              have KB5 := Lib.hid ((g4.block w.heap.size (by omega) (fun e => e.elim (fun e => by omega) (fun e => by have := HR.out.1.wait.lt _ e; omega))).trans KB4.out)
              have c1 : w5.cell? ⟨tb, 1, none⟩ = some (.map (some rb)) := (World.cell?_of_block (a := ⟨tb, 1, none⟩) (g4.block tb (HT2.out.lt _ HT2.out.f1) (fun e => e.elim (fun e => by omega) (fun e => (HR.out.2.2 tb ⟨_, _, rfl, .inr e⟩).2.1 rfl)))).trans HT2.out.c1
              have MP := Lib.hid (show MapAt Try.prog 24 (fun _ => True) kLit w5.drew rb (m + 1) (rowF { st with wish := upd st.wish tx (some ⟨k, wantN ex, now⟩) } g) from HT2.out.map1.block (g4.block rb (HT2.out.lt _ HT2.out.f2) (fun e => e.elim (fun e => by omega) (fun e => (HR.out.2.2 rb ⟨_, _, rfl, .inr e⟩).2.2.1 rfl))))
              have M5 := Lib.hid (show Moves (fun b => b = w.heap.size + 1 ∨ (Value.slice A' n' c').ownBlock = some b) w4 w5.drew from g4.trans (moves_of_below (below_drewN (Below.refl _ w5) 1)) fun _ h => .inl h)
              have G2 := Lib.hid (show WaitAt w5.drew _ _ from g2.kept fun _ _ => rfl)
              have G3 := Lib.hid g3
              have hh5 : HoldAt w5 (.slice A n c) (st.row k).hs := HRW.out.hold.kept fun b hb => g4.block b (HRW.out.hold.lt b hb) (fun e => e.elim (fun e => by have := HR.out.1.hold.lt b hb; omega) (fun e => hapart b hb e))
              have G4 := Lib.hid (show HoldAt w5.drew _ _ from hh5.kept fun _ _ => rfl)
              have v0 := g1.c0
              have v1 := g1.c1
              have KBX := KB5.out
              have k0 : w5.cell? ⟨w.heap.size, 0, none⟩ = some (.int .u8 b0) := by simp [World.cell?, KBX]
              have k1 : w5.cell? ⟨w.heap.size, 1, none⟩ = some (.int .u8 b1) := by simp [World.cell?, KBX]
              have k2 : w5.cell? ⟨w.heap.size, 2, none⟩ = some (.int .u8 b2) := by simp [World.cell?, KBX]
              have k3 : w5.cell? ⟨w.heap.size, 3, none⟩ = some (.int .u8 b3) := by simp [World.cell?, KBX]
              clear KBX
              clear g1 g2 g3 g4 hh5 hno hlt4 hwbk
              go_wp2_with fail
              go_still_tail 6, (by kernel_rfl)
              change wpList _ _ _ _ _ w5.drew
              go_wp2_with (first | (at_mapUpdate; refine wpList_put kindKey rfl _ _ _ 55 rfl 64 Try.underlying55 rb (m + 1) _ rfl MP.out (by unfold maxLen; omega) k (.agg #[.slice A n c, .slice A5 n5 c5]) HK.out.symm trivial rfl ?_; intro w6 hmap hgr) | fail)
              go_ret
              have hfin := HS3.out
              rw [if_neg (by simp)] at hfin
              cases hfin
              have hE := ask_end (m' := m + 2) (r := ⟨(st.row k).hs, queueW (st.row k).hs (st.row k).ws tx⟩) HT2.out M5.out (fun b hGb hFb => hGb.elim (fun e => by have := HT.out.lt b hFb; omega) (fun e => (show BlkOf (rowG st g k) b from HE1.out ▸ ⟨_, _, rfl, .inr e⟩))) G4.out G2.out (fun b hb => .inl (show BlkOf (rowG st g k) b from HE1.out ▸ ⟨_, _, rfl, .inl hb⟩)) (fun b hb => (G3.out b hb).elim (fun e => .inl (show BlkOf (rowG st g k) b from HE1.out ▸ ⟨_, _, rfl, .inr e⟩)) (fun e => .inr e.1)) (fun b hb hb2 => (G3.out b hb2).elim (fun e => hapart b hb e) (fun e => by have := HR.out.1.hold.lt b hb; omega)) (by have := HR.out.2.1; simp only [queueW_len]; omega) (by omega) hgr hmap
              have M0 : Moves F w w4 := ((moves_of_below B3.out).trans (moves_of_below (below_drewN (Below.refl _ w3) 1)) fun _ h => .inl h).trans (moves_of_grown HGR2.out fun b e => by injection e with e; rw [← e]; exact HT.out.f3) fun _ h => .inl h
              exact ask_does2 HI'.out hE M0 (fun b hb => HT.out.lt b hb) (fun b hb => hb.elim (fun e => .inr (by omega)) (fun e => .inl (HR.out.2.2 b ⟨_, _, rfl, .inr e⟩).1))
end Go.Proofs.Ytnfodidfhnofkaa
