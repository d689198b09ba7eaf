/- The document's own table: a key goes on. -/
import Derived.Test.YtnfodidfhnofkaaIg
import Derived.Deep.CutRange
namespace Go.Proofs.Ytnfodidfhnofkaa
open Go.RowKit Go.Deep Go.Maps Go.Lib

theorem RefAt.more {w : World} {F G : Nat → Prop} {tb m : Nat} {rs : RS} (h : RefAt w F tb m rs) (hF : ∀ b, F b → G b) (hl : ∀ b, G b → b < w.heap.size) : RefAt w G tb m rs := by
  obtain ⟨hv, qv, h⟩ := h
  exact ⟨hv, qv, h.blk, h.hrow, h.qrow, h.sep, fun b hb => ⟨hF b (h.hF b hb).1, (h.hF b hb).2⟩, fun b hb => ⟨hF b (h.qF b hb).1, (h.qF b hb).2⟩, hF tb h.f1, hl, h.len⟩
theorem RefAt.mono {w : World} {F : Nat → Prop} {tb m m' : Nat} {rs : RS} (h : RefAt w F tb m rs) (hm : m ≤ m') : RefAt w F tb m' rs := by
  obtain ⟨hv, qv, h⟩ := h
  exact ⟨hv, qv, h.blk, h.hrow, h.qrow, h.sep, h.hF, h.qF, h.f1, h.lt, Nat.le_trans h.len hm⟩
/-- A table that has come from w0 to w, its blocks those that it had and new ones. -/
structure Tr (w0 w : World) (F : Nat → Prop) (tb m : Nat) (rs : RS) : Prop where
  at_ : RefAt w (grow F w0 w) tb m rs
  mv : Moves F w0 w
theorem Tr.start {w : World} {F : Nat → Prop} {tb m : Nat} {rs : RS} (h : RefAt w F tb m rs) : Tr w w F tb m rs := ⟨h.more (fun _ hb => .inl hb) fun b hb => hb.elim (h.lt b) (·.2), Moves.refl _ _⟩
theorem Tr.step {w0 w w' : World} {F : Nat → Prop} {tb m m' : Nat} {rs rs' : RS} (h : Tr w0 w F tb m rs) (h1 : RefAt w' (grow (grow F w0 w) w w') tb m' rs') (h2 : Moves (grow F w0 w) w w') : Tr w0 w' F tb m' rs' :=
  ⟨h1.more (fun b hb => by
      rcases hb with (hb | hb) | hb
      · exact .inl hb
      · exact .inr ⟨hb.1, Nat.lt_of_lt_of_le hb.2 h2.size⟩
      · exact .inr ⟨Nat.le_trans h.mv.size hb.1, hb.2⟩) (fun b hb => by
      rcases hb with hb | hb
      · have := h.at_.lt b (.inl hb); have := h2.size; omega
      · exact hb.2),
    h.mv.trans h2 fun _ hb => hb.elim .inl fun e => .inr e.1⟩
theorem Tr.still {w0 w w' : World} {F : Nat → Prop} {tb m : Nat} {rs : RS} (h : Tr w0 w F tb m rs) (hb : Below w.heap.size w w') : Tr w0 w' F tb m rs :=
  ⟨(h.at_.below hb).more (fun b hb2 => hb2.imp id fun e => ⟨e.1, Nat.lt_of_lt_of_le e.2 hb.size⟩) fun b hb2 => by
      rcases hb2 with hb2 | hb2
      · have := h.at_.lt b (.inl hb2); have := hb.size; omega
      · exact hb2.2,
    h.mv.trans (moves_of_below (F := F) hb) fun _ e => .inl e⟩
theorem Tr.mono {w0 w : World} {F : Nat → Prop} {tb m m' : Nat} {rs : RS} (h : Tr w0 w F tb m rs) (hm : m ≤ m') : Tr w0 w F tb m' rs := ⟨h.at_.mono hm, h.mv⟩
/-- From below: the call that began with w, and took new memory first. -/
theorem Tr.does {w w0 w' : World} {F : Nat → Prop} {tb m : Nat} {rs : RS} {v : Value} (h : Tr w0 w' F tb m rs) (hb : Below w.heap.size w w0) (hl : ∀ b, F b → b < w.heap.size) : RefDoes F tb m rs v w (.returned v) w' :=
  ⟨rfl, h.at_.more (fun _ e => e.imp id fun e => ⟨Nat.le_trans hb.size e.1, e.2⟩) (fun b e => e.elim (fun e => Nat.lt_of_lt_of_le (hl b e) (Nat.le_trans hb.size h.mv.size)) (·.2)), (moves_of_below (F := F) hb).trans h.mv fun _ e => .inl e⟩
theorem Tr.key {w0 w : World} {F : Nat → Prop} {tb m kb : Nat} {rs : RS} {k : KeyT} (h : Tr w0 w F tb m rs) (hk : KeyC w0 kb k) (hno : ¬ F kb) : KeyC w kb k := (h.mv.block kb hk.lt hno).trans hk
/-- The queue is turned. -/
theorem refSetQ {wr w2 : World} {G : Nat → Prop} {tb m m' n c : Nat} {rs : RS} {A : Option Addr} {l : List RHold} (h : RefAt wr G tb m rs) (hb : Below wr.heap.size wr w2) (hown : ERow eltQ wr.heap.size w2 (.slice A n c) l) (hlen : rs.holds.length + l.length ≤ m') :
    RefAt (w2.setCell ⟨tb, 2, none⟩ (.slice A n c)) (grow G wr (w2.setCell ⟨tb, 2, none⟩ (.slice A n c))) tb m' { rs with queue := l } ∧ Moves G wr (w2.setCell ⟨tb, 2, none⟩ (.slice A n c)) := by
  obtain ⟨hv, qv, h⟩ := h
  have h1 := h.below hb
  have hM : Moves G wr (w2.setCell ⟨tb, 2, none⟩ (.slice A n c)) := (moves_of_below hb).trans (moves_setCell G w2 ⟨tb, 2, none⟩ _ h.f1) fun _ e => .inl e
  have hsk : ∀ b, b ≠ tb → (w2.setCell ⟨tb, 2, none⟩ (.slice A n c)).heap[b]? = w2.heap[b]? := fun b hb => Below.heap_setCell _ _ _ b hb
  have hn : ∀ b, (Value.slice A n c).ownBlock = some b → wr.heap.size ≤ b ∧ b < w2.heap.size := fun b e => hown.lt b e
  have hs2 : (w2.setCell ⟨tb, 2, none⟩ (.slice A n c)).heap.size = w2.heap.size := by simp
  refine ⟨⟨hv, .slice A n c, ?_, h1.hrow.kept fun b e => hsk b (h.hF b e).2, ?_, fun b e e2 => ?_, fun b e => ⟨.inl (h.hF b e).1, (h.hF b e).2⟩, fun b e => ⟨.inr ⟨(hn b e).1, by rw [hs2]; exact (hn b e).2⟩, fun e2 => by have := (hn b e).1; have := h.tbl; omega⟩, .inl h.f1, fun b e => e.elim (fun e => Nat.lt_of_lt_of_le (h.lt b e) hM.size) (·.2), hlen⟩, hM⟩
  · have := setCell_heap (v := .slice A n c) (i := 2) h1.blk
    simpa using this
  · exact QRow.kept (hown.base (Nat.zero_le _)) fun b e => hsk b fun e2 => by have := (hn b e).1; have := h.tbl; omega
  · have := (hn b e2).1
    have := h.lt b (h.hF b e).1
    omega
theorem placeOf_at {α : Type} {p : α → Bool} {l : List α} {j : Nat} {x : α} (hx : l[j]? = some x) : placeOf p (l.drop j) = if p x then 0 else placeOf p (l.drop (j + 1)) + 1 := by
  obtain ⟨hl, rfl⟩ := List.getElem?_eq_some_iff.1 hx
  rw [List.drop_eq_getElem_cons hl]
  rfl
theorem onQ_none {k : KeyT} {f : Nat} {rs : RS} (h : rs.queue[placeOf (ofKey k) rs.queue]? = none) : onQ k f rs = rs := by
  cases f with
  | zero => rfl
  | succ f => simp only [onQ, h]
theorem onQ_some {k : KeyT} {f : Nat} {rs : RS} {y : RHold} {j : Nat} (hj : placeOf (ofKey k) rs.queue = j) (h : rs.queue[j]? = some y) : onQ k (f + 1) rs = if mayQ rs.holds y then onQ k f { rs with holds := grantQ rs.holds y, queue := rs.queue.take j ++ rs.queue.drop (j + 1) } else rs := by
  subst hj
  conv => lhs; unfold onQ
  rw [h]
set_option maxRecDepth 100000 in
set_option maxHeartbeats 8000000 in
theorem refOn_any (F : Nat → Prop) (tb m : Nat) (rs : RS) (k : KeyT) (w : World) (h : RefAt w F tb m rs) (hm : m ≤ 1000) :
    Calls Try.prog 49 #[.pointer (some ⟨tb, 0, none⟩), KV k] w (RefDoes F tb m (onQS k rs) (.tuple #[]) w) := by
  have hlt := h.lt
  have hbV : Below w.heap.size w (w.alloc (.cells #[.int .u8 (k.a.val : Int), .int .u8 (k.b.val : Int), .int .u8 (k.c.val : Int), .int .u8 (k.d.val : Int)] 24)) := (Below.refl _ w).alloc (Nat.le_refl _) _
  have hkV : KeyC (w.alloc (.cells #[.int .u8 (k.a.val : Int), .int .u8 (k.b.val : Int), .int .u8 (k.c.val : Int), .int .u8 (k.d.val : Int)] 24)) w.heap.size k := heap_alloc_new w _
  have HLT := Lib.hid hlt
  have HT := Lib.hid h
  rw [KV_def]
  go_enter Try.func49, Try.ntmps49
  go_wp2_with fail
  generalize (w.alloc (.cells #[.int .u8 (k.a.val : Int), .int .u8 (k.b.val : Int), .int .u8 (k.c.val : Int), .int .u8 (k.d.val : Int)] 24)) = V at *
  have HBV := Lib.hid hbV
  have HTV := Lib.hid (Tr.start (HT.out.below hbV))
  have HKV := Lib.hid hkV
  have hnk : ¬ F w.heap.size := fun e => by have := hlt _ e; omega
  have HNK := Lib.hid hnk
  have HFI := Lib.hid (show onQ k rs.queue.length rs = onQS k rs from rfl)
  generalize onQS k rs = fin at *
  clear h hbV hkV hlt hnk
  go_loopg [] rs.queue.length (fun gg wq => ∃ (rs1 : RS), rs1.queue.length ≤ gg ∧ Hid (onQ k gg rs1 = fin) ∧ Hid (Tr V wq F tb m rs1))
  case atStart => exact ⟨rs, Nat.le_refl _, HFI, HTV⟩
  case round =>
    obtain ⟨rs1, hf, HFI1, HT1⟩ := hrel
    obtain ⟨gko, rfl⟩ : ∃ gko, gko = gk := ⟨_, rfl⟩
    obtain ⟨hv, qv, hi⟩ := HT1.out.at_
    obtain ⟨A, c, rfl⟩ := hi.qrow.slice
    obtain ⟨N, hN⟩ : ∃ N, rs1.queue.length = N := ⟨_, rfl⟩
    have hNm : N ≤ 1000 := by have := hi.len; omega
    rw [hN] at hi hf
    have HN := Lib.hid hN
    have HI := Lib.hid hi
    have HK1 := Lib.hid (HT1.out.key HKV.out HNK.out)
    clear hN hi
    go_wp2_with fail
    obtain ⟨wo, rfl⟩ : ∃ wo, wo = wr := ⟨_, rfl⟩
    go_loopg [4] N (fun gg s4 wq => ∃ j : Nat, j ≤ N ∧ N - j ≤ gg ∧ s4 = .int .i64 j ∧ Hid (placeOf (ofKey k) rs1.queue = j + placeOf (ofKey k) (rs1.queue.drop j)) ∧ Hid (Below wo.heap.size wo wq))
    case atStart => exact ⟨0, Nat.zero_le _, by omega, rfl, Lib.hid (by rw [List.drop_zero, Nat.zero_add]), Lib.hid (Below.refl _ _)⟩
    case round =>
      obtain ⟨j, hj, hgj, rfl, HP, HB⟩ := hrel
      have c2 := (HI.out.below HB.out).c2
      have tl := (HI.out.below HB.out).tbl
      obtain ⟨q0, q1, q2, q3⟩ := (HK1.out.still HB.out).cells
      have hkl := (HK1.out.still HB.out).lt
      by_cases hjl : j < N
      · have hjz : (j : Int) < (N : Int) := by omega
        have hjn : ((j : Int) == (N : Int)) = false := by
          have : ¬ (j : Int) = (N : Int) := by omega
          simpa using this
        obtain ⟨y, hy⟩ : ∃ y, rs1.queue[j]? = some y := ⟨_, List.getElem?_eq_getElem (by have := HN.out; omega)⟩
        have HY := Lib.hid hy
        obtain ⟨g, rfl, -, hgl, hNc⟩ := (HI.out.below HB.out).qrow.at (by have := HN.out; omega)
        obtain ⟨y0, y1, y2, y3, y4, y5, y6, y7⟩ := (HI.out.below HB.out).qrow.cells hy
        have heq := fun W => run_neqKey y.key k W
        simp only [KV_def] at heq
        have HD := Lib.hid (placeOf_at (p := ofKey k) hy)
        clear hy
        unfold ofKey at HD
        by_cases hk : y.key = k
        · have e1 : decide (y.key = k) = true := decide_eq_true hk
          simp only [e1, Bool.not_true] at heq
          have HPJ := Lib.hid (show placeOf (ofKey k) rs1.queue = j by
            have := HP.out
            have h2 := HD.out
            unfold ofKey at this ⊢
            rw [h2, e1] at this
            simpa using this)
          have HYK := Lib.hid hk
          clear HP HD hk
          go_wp2_with fail
          go_quiet (fail)
          have hbd : Below wr.heap.size wr (wr.drewN nq) := below_drewN (Below.refl _ wr) _
          have HBD := Lib.hid (HB.out.trans (hbd.mono HB.out.size))
          clear hbd
          go_wp2_with fail
          obtain ⟨f, rfl⟩ : ∃ f, gko = f + 1 := ⟨gko - 1, by omega⟩
          have HON := Lib.hid ((onQ_some (f := f) HPJ.out HY.out).symm.trans HFI1.out)
          obtain ⟨b, hb⟩ : ∃ b, mayQ rs1.holds y = b := ⟨_, rfl⟩
          rw [hb] at HON
          have hmay := refMay_any (grow F V wo) tb m rs1 y b (wr.drewN nq) (HT1.out.at_.below HBD.out) hm hb
          rw [HQ_def] at hmay
          refine hmay.mono ?_
          rintro e w5 ⟨rfl, hb5⟩
          have HB5 := Lib.hid (HBD.out.trans (hb5.mono HBD.out.size))
          clear hmay hb hb5 c2 tl q0 q1 q2 q3 hkl y0 y1 y2 y3 y4 y5 y6 y7 heq hgl
          cases b with
          | false =>
            have hfin : fin = rs1 := HON.out.symm
            have HF := Lib.hid hfin
            clear hfin
            go_wp2_with fail
            refine bodyPost_ret (results_none rfl _ _ _) rfl ?_
            rw [HF.out]
            exact (HT1.out.still HB5.out).does HBV.out HLT.out
          | true =>
            have hbW : Below w5.heap.size w5 (w5.alloc (holdO y)) := (Below.refl _ w5).alloc (Nat.le_refl _) _
            have hyW := HoldC.new w5 y
            have c2 := (HI.out.below HB5.out).c2
            have tl := (HI.out.below HB5.out).tbl
            obtain ⟨g', hg', -, hgl, -⟩ := (HI.out.below HB5.out).qrow.at (by have := HN.out; omega)
            obtain rfl : g' = g := by simpa using hg'.symm
            obtain ⟨y0, y1, y2, y3, y4, y5, y6, y7⟩ := (HI.out.below HB5.out).qrow.cells HY.out
            clear hg'
            go_upto_region 6 with fail
            change Code.wp _ _ _ _ (w5.alloc (holdO y))
            generalize (w5.alloc (holdO y)) = W at *
            have HBW := Lib.hid (HB5.out.trans (hbW.mono HB5.out.size))
            have HYW := Lib.hid hyW
            clear hbW hyW c2 tl hgl y0 y1 y2 y3 y4 y5 y6 y7
            have HIW := Lib.hid (HI.out.below HBW.out)
            have tl := HIW.out.tbl
            have c2 := HIW.out.c2
            have hNc2 : N ≤ c := by have := HN.out; omega
            have hj1 : (j : Int) + 1 ≤ (N : Int) := by omega
            have hjc : (j : Int) ≤ (c : Int) := by omega
            have hjc1 : (j : Int) + 1 ≤ (c : Int) := by omega
            have f0 : W.frozen? ⟨tb, 2, none⟩ = false := by
              have := HIW.out.blk
              simp [World.frozen?, this]
            have r0 : ∀ o : Obj, (W.alloc o).cell? ⟨tb, 2, none⟩ = some (.slice (some ⟨g', 0, none⟩) N c) := fun o => (World.cell?_alloc_lt W o ⟨tb, 2, none⟩ tl).trans c2
            have HM := Lib.hid (show ERow eltQ W.heap.size (W.alloc (.cells #[] 74)).drew (.slice (some ⟨W.heap.size, 0, none⟩) 0 0) [] from (ERow.made eltQ W.heap.size W (Nat.le_refl _)).below (below_drewN (Below.refl _ _) 1))
            have HEI := Lib.hid (show ∀ W', Below W.heap.size W W' → EIn eltQ W' (some ⟨g', 0, none⟩) rs1.queue from fun W' hb => ERow.in_all (E := eltQ) (HIW.out.qrow.below hb))
            have hbd : Below W.heap.size W (W.alloc (.cells #[] 74)).drew := below_drewN ((Below.refl _ W).alloc (Nat.le_refl _) _) 1
            have HE1 := Lib.hid ((HEI.out _ hbd).take j)
            have HLT1 := Lib.hid (show (rs1.queue.take j).length = j by rw [List.length_take]; have := HN.out; omega)
            have HLD := Lib.hid (show (rs1.queue.drop (j + 1)).length = N - (j + 1) by rw [List.length_drop, HN.out])
            have hsub : (N : Int) - ((j : Int) + 1) = ((N - (j + 1) : Nat) : Int) := by omega
            have hsub2 : (c : Int) - ((j : Int) + 1) = ((c - (j + 1) : Nat) : Int) := by omega
            clear hbd
            have hwr : IntKind.i64.wrap ((j : Int) + 1) = (j : Int) + 1 := by rw [IntKind.wrap_i64]; omega
            have htn : ((j : Int) + 1).toNat = j + 1 := by omega
            have hj0 : (0 : Int) ≤ (j : Int) + 1 := by omega
            have HOK := Lib.hid (show ∀ w2 A2 n2 cc2, Below W.heap.size W w2 → ERow eltQ W.heap.size w2 (.slice A2 n2 cc2) ([] ++ rs1.queue.take j ++ rs1.queue.drop (j + 1)) → RefAt (w2.setCell ⟨tb, 2, none⟩ (.slice A2 n2 cc2)) (grow (grow F V W) W (w2.setCell ⟨tb, 2, none⟩ (.slice A2 n2 cc2))) tb (m - 1) { rs1 with queue := rs1.queue.take j ++ rs1.queue.drop (j + 1) } ∧ Moves (grow F V W) W (w2.setCell ⟨tb, 2, none⟩ (.slice A2 n2 cc2)) ∧ HoldC (w2.setCell ⟨tb, 2, none⟩ (.slice A2 n2 cc2)) w5.heap.size y from fun w2 A2 n2 cc2 hb hown => by
              have hlen := HI.out.len
              have hll := HLT1.out
              have hld := HLD.out
              have hnn := HN.out
              obtain ⟨r1, r2⟩ := refSetQ (m' := m - 1) (HT1.out.still HBW.out).at_ hb hown (by rw [List.nil_append, List.length_append, hll, hld]; omega)
              refine ⟨r1, r2, ?_⟩
              have hne : w5.heap.size ≠ tb := fun e => by have := (HI.out.below HB5.out).tbl; omega
              exact (Below.heap_setCell _ _ _ _ hne).trans (HYW.out.still hb))
            have HDN := Lib.hid (show c = j + 1 → rs1.queue.drop (j + 1) = [] from fun e => List.drop_eq_nil_of_le (by have := HN.out; omega))
            go_cut [] from 53 to 71 (fun wx => RefAt wx (grow (grow F V W) W wx) tb (m - 1) { rs1 with queue := rs1.queue.take j ++ rs1.queue.drop (j + 1) } ∧ Moves (grow F V W) W wx ∧ HoldC wx w5.heap.size y)
            case first =>
              by_cases hc : c = j + 1
              · subst hc
                have hN1 : N = j + 1 := by omega
                have HN1 := Lib.hid hN1
                have hle1 : (j : Int) ≤ (j : Int) + 1 := by omega
                have hle2 : (j : Int) + 1 ≤ (j : Int) + 1 := by omega
                have HDZ := Lib.hid (show (rs1.queue.drop (j + 1)).length = 0 by rw [HLD.out]; omega)
                clear hN1
                go_region_law (first
                  | (refine step_appendI eltQ w1 (by rfl) _ _ (by rfl) W.heap.size (.slice A1 n1 cc1) ([] ++ rs1.queue.take j) (by rfl) hown1 (some ⟨g', 0, none⟩) (rs1.queue.drop (j + 1)) 0 0 (by rfl) HDZ.out hE2 (fun e => by cases e) (by rw [List.nil_append, HLT1.out]; omega) hs1 ?_; intro v2 w2 hown2 hgrow2 hat2; obtain ⟨A2, n2, cc2, rfl, -⟩ := ERow.sliceN hown2; have hb2 : Below W.heap.size W w2 := hb1.grown hgrow2 hs1 (fun k e => (hown1.lt k e).1); have c22 : w2.cell? ⟨tb, 2, none⟩ = some (.slice (some ⟨g', 0, none⟩) N (j + 1)) := (hb2.cell (p := ⟨tb, 2, none⟩) tl).trans c2; have f22 : w2.frozen? ⟨tb, 2, none⟩ = false := (World.frozen?_of_block (a := ⟨tb, 2, none⟩) (hb2.block tb tl)).trans f0; have hs2 := hb2.size)
                  | ((fail_if_success (clear hown1)); refine step_appendI eltQ _ (by rfl) _ _ (by rfl) W.heap.size (.slice (some ⟨W.heap.size, 0, none⟩) 0 0) [] (by rfl) HM.out (some ⟨g', 0, none⟩) (rs1.queue.take j) j (j + 1) (by rfl) HLT1.out HE1.out (fun e => by cases e) (by simp; omega) (by simp) ?_; intro v1 w1 hown1 hgrow1 hat1; obtain ⟨A1, n1, cc1, rfl, -⟩ := ERow.sliceN hown1; have hb1 : Below W.heap.size W w1 := ((Below.refl _ W).alloc (Nat.le_refl _) (.cells #[] 74)).grown ⟨hgrow1.os, hgrow1.tape, hgrow1.output, hgrow1.size, hgrow1.block⟩ (by simp) (fun k e => (HM.out.lt k e).1); have c21 : w1.cell? ⟨tb, 2, none⟩ = some (.slice (some ⟨g', 0, none⟩) N (j + 1)) := (hb1.cell (p := ⟨tb, 2, none⟩) tl).trans c2; have hE2 : EIn eltQ w1 (some ⟨g', 0, none⟩) (rs1.queue.drop (j + 1)) := .inl (HDN.out rfl); have hs1 := hb1.size))
                all_goals
                  go_wp2
                  go_meet
                  exact HOK.out _ _ _ _ hb2 hown2
              · go_region_law (first
                  | (refine step_appendI eltQ w1 (by rfl) _ _ (by rfl) W.heap.size (.slice A1 n1 cc1) ([] ++ rs1.queue.take j) (by rfl) hown1 (some ⟨g', (j + 1) * 8, none⟩) (rs1.queue.drop (j + 1)) (N - (j + 1)) (c - (j + 1)) (by rfl) HLD.out hE2 (fun e => by cases e) (by rw [List.nil_append, HLT1.out]; omega) hs1 ?_; intro v2 w2 hown2 hgrow2 hat2; obtain ⟨A2, n2, cc2, rfl, -⟩ := ERow.sliceN hown2; have hb2 : Below W.heap.size W w2 := hb1.grown hgrow2 hs1 (fun k e => (hown1.lt k e).1); have c22 : w2.cell? ⟨tb, 2, none⟩ = some (.slice (some ⟨g', 0, none⟩) N c) := (hb2.cell (p := ⟨tb, 2, none⟩) tl).trans c2; have f22 : w2.frozen? ⟨tb, 2, none⟩ = false := (World.frozen?_of_block (a := ⟨tb, 2, none⟩) (hb2.block tb tl)).trans f0; have hs2 := hb2.size)
                  | ((fail_if_success (clear hown1)); refine step_appendI eltQ _ (by rfl) _ _ (by rfl) W.heap.size (.slice (some ⟨W.heap.size, 0, none⟩) 0 0) [] (by rfl) HM.out (some ⟨g', 0, none⟩) (rs1.queue.take j) j c (by rfl) HLT1.out HE1.out (fun e => by cases e) (by simp; omega) (by simp) ?_; intro v1 w1 hown1 hgrow1 hat1; obtain ⟨A1, n1, cc1, rfl, -⟩ := ERow.sliceN hown1; have hb1 : Below W.heap.size W w1 := ((Below.refl _ W).alloc (Nat.le_refl _) (.cells #[] 74)).grown ⟨hgrow1.os, hgrow1.tape, hgrow1.output, hgrow1.size, hgrow1.block⟩ (by simp) (fun k e => (HM.out.lt k e).1); have c21 : w1.cell? ⟨tb, 2, none⟩ = some (.slice (some ⟨g', 0, none⟩) N c) := (hb1.cell (p := ⟨tb, 2, none⟩) tl).trans c2; have hE2 : EIn eltQ w1 (some ⟨g', (j + 1) * 8, none⟩) (rs1.queue.drop (j + 1)) := (by have := (HEI.out w1 hb1).drop (j + 1); rw [Nat.zero_add] at this; exact this); have hs1 := hb1.size))
                all_goals
                  go_wp2
                  go_meet
                  exact HOK.out _ _ _ _ hb2 hown2
            case rest =>
              obtain ⟨r1, r2, r3⟩ := hcut
              have T1 := Lib.hid ((HT1.out.still HBW.out).step r1 r2)
              obtain ⟨y0, y1, y2, y3, y4, y5, y6, y7⟩ := r3.cells
              have hyl := r3.lt
              have hm1 : 1 ≤ m := by have := HI.out.len; have := HN.out; omega
              have hgr := refGrant_any (grow F V wc) tb (m - 1) { rs1 with queue := rs1.queue.take j ++ rs1.queue.drop (j + 1) } y wc T1.out.at_ (by omega)
              rw [HQ_def] at hgr
              have HR := Lib.hid r3
              clear r1 r2 r3
              go_wp2_with fail
              refine hgr.mono ?_
              rintro e w7 ⟨rfl, r4, r5⟩
              have T2 := Lib.hid ((T1.out.step r4 r5).mono (show m - 1 + 1 ≤ m by omega))
              clear hgr r4 r5 y0 y1 y2 y3 y4 y5 y6 y7 hyl
              go_wp2_with fail
              go_roundg f
              case measure => omega
              case rel => exact ⟨_, by rw [List.length_append, HLT1.out, HLD.out]; omega, Lib.hid HON.out, T2⟩
        · have e1 : decide (y.key = k) = false := decide_eq_false hk
          simp only [e1, Bool.not_false] at heq
          have HPJ := Lib.hid (show placeOf (ofKey k) rs1.queue = (j + 1) + placeOf (ofKey k) (rs1.queue.drop (j + 1)) by
            have := HP.out
            have h2 := HD.out
            unfold ofKey at this ⊢
            rw [h2, e1] at this
            simp at this ⊢
            omega)
          clear HP HD hk
          go_wp2_with fail
          go_quiet (fail)
          go_wp2_with fail
          go_roundg (N - (j + 1))
          case measure => omega
          case rel => exact ⟨j + 1, by omega, by omega, by go_num, HPJ, Lib.hid (HB.out.trans ((below_drewN (Below.refl _ wr) _).mono HB.out.size))⟩
      · obtain rfl : j = N := by omega
        have hfin : fin = rs1 := by
          have hp := HP.out
          rw [List.drop_eq_nil_of_le (by have := HN.out; omega)] at hp
          have hp2 : placeOf (ofKey k) rs1.queue = j := hp
          have := HFI1.out
          rw [onQ_none (by rw [hp2]; exact List.getElem?_eq_none (by have := HN.out; omega))] at this
          exact this.symm
        have HF := Lib.hid hfin
        clear hfin
        go_wp2_with fail
        go_quiet (fail)
        go_wp2_with fail
        refine bodyPost_ret (results_none rfl _ _ _) rfl ?_
        rw [HF.out]
        exact (HT1.out.still (HB.out.trans ((below_drewN (Below.refl _ wr) _).mono HB.out.size))).does HBV.out HLT.out
end Go.Proofs.Ytnfodidfhnofkaa
