/- DiskCalls: the walk, over a disk and the document's own. -/
import Derived.Test.YtckkgcogkcljeaaRv
namespace Go.Proofs.Ytckkgcogkcljeaa
open Go.RowKit Go.Deep Go.Maps
attribute [local go_sem ↓] Go.wp_at_zero Go.wp_at_succ

/-- A disk and the document's, with no block in common, and none of X's. -/
def Both (B : Nat) (w0 : World) (X : Nat → Prop) (w : World) (db rb n : Nat) (sd sr : St) : Prop := ∃ F G, DiskAt w F db n sd ∧ RefAt w G rb n sr ∧ (∀ k, F k → ¬ G k) ∧ (∀ k, F k → B ≤ k) ∧ (∀ k, G k → B ≤ k) ∧ (∀ k, X k → ¬ F k ∧ ¬ G k ∧ k < w.heap.size) ∧ Below B w0 w ∧ B ≤ w.heap.size
theorem Both.frame {B : Nat} {w0 w : World} {X : Nat → Prop} {db rb n : Nat} {sd sr : St} (h : Both B w0 X w db rb n sd sr) : Below B w0 w ∧ B ≤ w.heap.size := by
  obtain ⟨F, G, h1, h2, h3, h4, h5, h6, h7, h8⟩ := h; exact ⟨h7, h8⟩
theorem Both.wf {B : Nat} {w0 w : World} {X : Nat → Prop} {db rb n : Nat} {sd sr : St} (h : Both B w0 X w db rb n sd sr) : Wf n sd := by
  obtain ⟨F, G, h1, h2, h3, h4, h5, h6, h7, h8⟩ := h; exact h1.wf
theorem Both.below {B : Nat} {w0 w w' : World} {X : Nat → Prop} {db rb n : Nat} {sd sr : St} (h : Both B w0 X w db rb n sd sr) (hb : Below w.heap.size w w') : Both B w0 X w' db rb n sd sr := by
  obtain ⟨F, G, h1, h2, h3, h4, h5, h6, h7, h8⟩ := h
  exact ⟨F, G, h1.below hb, h2.below hb, h3, h4, h5, fun k hk => ⟨(h6 k hk).1, (h6 k hk).2.1, Nat.lt_of_lt_of_le (h6 k hk).2.2 hb.size⟩, h7.trans (hb.mono h8), Nat.le_trans h8 hb.size⟩
/-- What is new may be X's, too. -/
theorem Both.fresh {B : Nat} {w0 w w' : World} {X X' : Nat → Prop} {db rb n : Nat} {sd sr : St} (h : Both B w0 X w db rb n sd sr) (hb : Below w.heap.size w w') (hX : ∀ k, X' k → w.heap.size ≤ k ∧ k < w'.heap.size) : Both B w0 X' w' db rb n sd sr := by
  obtain ⟨F, G, h1, h2, h3, h4, h5, h6, h7, h8⟩ := h
  exact ⟨F, G, h1.below hb, h2.below hb, h3, h4, h5, fun k hk => ⟨fun e => by have := h1.lt k e; have := (hX k hk).1; omega, fun e => by have := h2.lt k e; have := (hX k hk).1; omega, (hX k hk).2⟩, h7.trans (hb.mono h8), Nat.le_trans h8 hb.size⟩
theorem Both.other {B : Nat} {w0 w w' : World} {X M : Nat → Prop} {db rb n : Nat} {sd sr : St} (h : Both B w0 X w db rb n sd sr) (hm : Moves M w w') (hM : ∀ k, M k → X k ∧ B ≤ k) : Both B w0 X w' db rb n sd sr := by
  obtain ⟨F, G, h1, h2, h3, h4, h5, h6, h7, h8⟩ := h
  exact ⟨F, G, h1.moves hm (fun k hk e => (h6 k (hM k e).1).1 hk), h2.moves hm (fun k hk e => (h6 k (hM k e).1).2.1 hk), h3, h4, h5, fun k hk => ⟨(h6 k hk).1, (h6 k hk).2.1, Nat.lt_of_lt_of_le (h6 k hk).2.2 hm.size⟩, h7.trans (hm.below h8 (fun k e => (hM k e).2)), Nat.le_trans h8 hm.size⟩
theorem both_d {B : Nat} {w0 w : World} {X : Nat → Prop} {db rb n : Nat} {sd sd' sr : St} {f : FuncId} {args : Array Value} {v : Value} (h : Both B w0 X w db rb n sd sr) (hc : ∀ F, DiskAt w F db n sd → Calls Try.prog f args w (Does F db n sd' v w)) :
    Calls Try.prog f args w fun e w' => e = .returned v ∧ Both B w0 X w' db rb n sd' sr ∧ ∀ k, X k → w'.heap[k]? = w.heap[k]? := by
  obtain ⟨F, G, h1, h2, h3, h4, h5, h6, h7, h8⟩ := h
  refine (hc F h1).mono ?_
  rintro e w' ⟨he, d2, d3⟩
  refine ⟨he, ⟨grow F w w', G, d2, h2.moves d3 (fun k hg hf => h3 k hf hg), ?_, ?_, h5, ?_, h7.trans (d3.below h8 h4), Nat.le_trans h8 d3.size⟩, fun k hk => d3.block k (h6 k hk).2.2 (h6 k hk).1⟩
  · rintro k (hk | hk) hg
    · exact h3 k hk hg
    · have := h2.lt k hg; omega
  · rintro k (hk | hk)
    · exact h4 k hk
    · omega
  · intro k hk
    refine ⟨?_, (h6 k hk).2.1, Nat.lt_of_lt_of_le (h6 k hk).2.2 d3.size⟩
    rintro (e | e)
    · exact (h6 k hk).1 e
    · have := (h6 k hk).2.2; omega
theorem both_r {B : Nat} {w0 w : World} {X : Nat → Prop} {db rb n : Nat} {sd sr sr' : St} {f : FuncId} {args : Array Value} {v : Value} (h : Both B w0 X w db rb n sd sr) (hc : ∀ G, RefAt w G rb n sr → Calls Try.prog f args w (RDoes G rb n sr' v w)) :
    Calls Try.prog f args w fun e w' => e = .returned v ∧ Both B w0 X w' db rb n sd sr' ∧ ∀ k, X k → w'.heap[k]? = w.heap[k]? := by
  obtain ⟨F, G, h1, h2, h3, h4, h5, h6, h7, h8⟩ := h
  refine (hc G h2).mono ?_
  rintro e w' ⟨he, d2, d3⟩
  refine ⟨he, ⟨F, grow G w w', h1.moves d3 (fun k hf hg => h3 k hf hg), d2, ?_, h4, ?_, ?_, h7.trans (d3.below h8 h5), Nat.le_trans h8 d3.size⟩, fun k hk => d3.block k (h6 k hk).2.2 (h6 k hk).2.1⟩
  · rintro k hf (hk | hk)
    · exact h3 k hf hk
    · have := h1.lt k hf; omega
  · rintro k (hk | hk)
    · exact h5 k hk
    · omega
  · intro k hk
    refine ⟨(h6 k hk).1, ?_, Nat.lt_of_lt_of_le (h6 k hk).2.2 d3.size⟩
    rintro (e | e)
    · exact (h6 k hk).2.1 e
    · have := (h6 k hk).2.2; omega
theorem Both.less {B : Nat} {w0 w : World} {X : Nat → Prop} {db rb n : Nat} {sd sr : St} (h : Both B w0 X w db rb n sd sr) : Both B w0 (fun _ => False) w db rb n sd sr := by
  obtain ⟨F, G, h1, h2, h3, h4, h5, h6, h7, h8⟩ := h
  exact ⟨F, G, h1, h2, h3, h4, h5, fun _ e => e.elim, h7, h8⟩
theorem Both.cells {B : Nat} {w0 w : World} {X : Nat → Prop} {db rb n : Nat} {sd sr : St} (h : Both B w0 X w db rb n sd sr) : ∃ A c, w.cell? ⟨rb, 1, none⟩ = some (.slice A sr.cache.length c) ∧ rb < w.heap.size := by
  obtain ⟨F, G, h1, h2, h3, h4, h5, h6, h7, h8⟩ := h
  obtain ⟨sv, cv, vs, es, h, _⟩ := h2
  obtain ⟨A, c, rfl, _⟩ := row_shape h.crow
  have hl : es.length = sr.cache.length := by rw [← h.same, List.length_map]
  exact ⟨A, c, by rw [← hl]; exact h.r1, h.lt⟩
theorem Both.xlt {B : Nat} {w0 w : World} {X : Nat → Prop} {db rb n : Nat} {sd sr : St} (h : Both B w0 X w db rb n sd sr) : ∀ k, X k → k < w.heap.size := by
  obtain ⟨F, G, h1, h2, h3, h4, h5, h6, h7, h8⟩ := h
  exact fun k hk => (h6 k hk).2.2
theorem owns_slice {B : Nat} {w : World} {A : Option Addr} {c : Nat} {zs : List Int} (h : Owns B w (.slice A zs.length c) zs) : Good A c zs w := by
  obtain ⟨A', c', e, g⟩ := h.good
  simp only [Value.slice.injEq, true_and] at e
  obtain ⟨rfl, rfl⟩ := e
  exact g
set_option maxRecDepth 100000 in
set_option maxHeartbeats 20000000 in
theorem calls_body (n : Nat) (A : Option Addr) (cs : List CallD) (l c : Nat) (w : World) (h1 : 1 ≤ n) (h2 : n ≤ 40) (h : CallsAt w.heap.size w A cs) (hl : cs.length = l) (hm : l ≤ maxLen) (hgr : greatB cs = false) :
    Calls Try.prog 3 #[.int .i64 n, .slice A l c] w fun e w' => e = .returned (.bool true) ∧ Below w.heap.size w w' := by
  have HL := Lib.hid hl
  have HG := Lib.hid hgr
  have i2 : (n : Int) ≤ 40 := by omega
  have d2 : decide ((40 : Int) < (n : Int)) = false := by simp; omega
  have hl80 : l ≤ 80 := by have := (great_no hgr).1; omega
  clear hl hgr
  go_enter Try.func3, Try.ntmps3
  go_wp2_with fail
  refine (alive_any w).mono ?_
  rintro e w1 ⟨rfl, b1⟩
  have s1 := b1.size
  go_wp2_with fail
  refine (great_any A cs l c w.heap.size false w1 (h.below b1) HL.out hm HG.out).mono ?_
  rintro e w1' ⟨rfl, rfl⟩
  go_wp2_with fail
  refine (new_ok n w1 h1 (by omega)).mono ?_
  rintro e w2 ⟨db, rfl, hd2, b2⟩
  have HD2 := Lib.hid hd2
  have s2 := b2.size
  clear hd2
  go_wp2_with fail
  refine (rnew_ok n w2 h1 h2).mono ?_
  rintro e w3 ⟨G, rb, rfl, hr3, hG3, b3⟩
  have hB : Both w.heap.size w (fun _ => False) w3 db rb n (newS n) (newS n) := ⟨_, G, HD2.out.below b3, hr3, fun k hf hg => by have := hG3 k hg; omega, fun k hk => by omega, fun k hk => by have := hG3 k hk; omega, fun _ e => e.elim, (b1.trans (b2.mono s1)).trans (b3.mono (by omega)), by have := b3.size; omega⟩
  have HB3 := Lib.hid hB
  clear hB hr3 hG3 b3 HD2 b1 b2
  go_wp2
  go_loopw [9] (fun k wr => ∃ (j : Nat) (st : St), j ≤ l ∧ k = .int .i64 j ∧ st.cache.length ≤ j ∧ Both w.heap.size w (fun _ => False) wr db rb n st st) (fun k _ => l - (intOf k).toNat)
  case atStart => exact ⟨0, newS n, by omega, rfl, by simp [newS], HB3.out⟩
  case round =>
    obtain ⟨j, st, hj, rfl, hcl, hbo⟩ := hrel
    have HBO := Lib.hid hbo
    have hbr := hbo.frame.1
    have sbr := hbo.frame.2
    clear hbo
    by_cases hlt : j < l
    · have hjc : j < cs.length := by rw [HL.out]; exact hlt
      have hx : cs[j]? = some cs[j] := List.getElem?_eq_getElem hjc
      have hlx := (great_no HG.out).2 _ (List.mem_of_getElem? hx)
      have hE0 : Good0 w.heap.size w cs[j].A cs[j].c cs[j].zs := by
        obtain ⟨b, off, _, _, hall⟩ := h (by omega)
        exact (hall j _ hx).2.2.2.2
      obtain ⟨b, off, rfl, hBb, hall⟩ := (h.below hbr) (by omega)
      obtain ⟨e0, e1, e2, e3, e4⟩ := hall j _ hx
      clear hall hx
      generalize cs[j] = x at *
      obtain ⟨what, at_, tr, xA, xc, zs⟩ := x
      simp only at hlx e0 e1 e2 e3 e4 hE0
      have E0 := Lib.hid hE0
      clear hE0
      have hlt' : (j : Int) < (l : Int) := by omega
      have HBR := Lib.hid hbr
      have E4 := Lib.hid e4
      clear e4 hbr
      go_wp2_with fail
      have hal : Below wr.heap.size wr (wr.alloc (.cells #[.int .i64 what, .int .i64 at_, .int .i64 tr, .slice xA zs.length xc] 34)) := (Below.refl _ _).alloc (Nat.le_refl _) _
      have hcb := heap_alloc_new wr (.cells #[.int .i64 what, .int .i64 at_, .int .i64 tr, .slice xA zs.length xc] 34)
      have hzW : (wr.alloc (.cells #[.int .i64 what, .int .i64 at_, .int .i64 tr, .slice xA zs.length xc] 34)).heap.size = wr.heap.size + 1 := by simp
      generalize (wr.alloc (.cells #[.int .i64 what, .int .i64 at_, .int .i64 tr, .slice xA zs.length xc] 34)) = W1 at *
      have hgW := (E4.out.below (hal.mono sbr)).good (by omega)
      refine (copyB xA zs xc zs.length rfl (by omega) W1 hgW).mono ?_
      rintro e w4 ⟨v4, rfl, o4, b4⟩
      have hcell : ∀ W : World, W.heap[wr.heap.size]? = W1.heap[wr.heap.size]? → W.cell? ⟨wr.heap.size, 0, none⟩ = some (.int .i64 what) ∧ W.cell? ⟨wr.heap.size, 1, none⟩ = some (.int .i64 at_) ∧ W.cell? ⟨wr.heap.size, 2, none⟩ = some (.int .i64 tr) ∧ W.cell? ⟨wr.heap.size, 3, none⟩ = some (.slice xA zs.length xc) := fun W hW => by
        refine ⟨?_, ?_, ?_, ?_⟩ <;> (rw [cell_of_row _ _ _ _ _ _ (hW.trans hcb)]; rfl)
      have HCL := Lib.hid hcell
      have hs4 : W1.heap.size ≤ w4.heap.size := b4.size
      have hb4c : w4.heap[wr.heap.size]? = W1.heap[wr.heap.size]? := b4.block _ (by omega)
      have HC4 := Lib.hid hb4c
      obtain ⟨m0, m1, m2, m3⟩ := hcell w4 hb4c
      have hbw4 : Below wr.heap.size wr w4 := hal.trans (b4.mono (by omega))
      have HB4 : Hid (Both w.heap.size w (fun k => k = wr.heap.size ∨ v4.ownBlock = some k) w4 db rb n st st) := Lib.hid (HBO.out.fresh hbw4 (fun k hk => by
        rcases hk with hk | hk
        · omega
        · have := World.ownsRow.lt o4 k hk; omega))
      have HO4 := Lib.hid o4
      obtain ⟨A4, c4, e4v, g4⟩ := o4.good
      subst e4v
      have G4 := Lib.hid g4
      have HG0 := Lib.hid ((E4.out.below ((hal.mono sbr).trans (b4.mono (by omega)))) : Good0 w.heap.size w4 xA xc zs)
      have hbB : Below w.heap.size w w4 := HBR.out.trans (hbw4.mono sbr)
      clear hal hcb hgW o4 b4 hcell hb4c hbw4 g4
      by_cases hw0 : what = 0
      · subst hw0
        obtain ⟨q, hq⟩ : ∃ q, writeE n at_ zs.length = q := ⟨_, rfl⟩
        obtain ⟨sx, hsx⟩ : ∃ sx, writeT n st at_ zs = sx := ⟨_, rfl⟩
        have hclx : sx.cache.length ≤ j + 1 := by rw [← hsx]; have := writeT_len n st at_ zs; omega
        have HQ := Lib.hid hq
        have HT := Lib.hid hsx
        have uq : (q != q) = false := by simp
        have HB4d : Hid (Both w.heap.size w (fun k => k = wr.heap.size ∨ (Value.slice A4 zs.length c4).ownBlock = some k) w4.drew db rb n st st) := Lib.hid (HB4.out.below (below_drewN (Below.refl _ _) 1))
        have G4d : Hid (Good A4 c4 zs w4.drew) := Lib.hid (G4.out.drewN 1)
        have hst9 : st.cache.length ≤ 999 := by omega
        clear hq hsx
        go_wp2
        go_region_held3 (fun w' => w'.cell? ⟨wr.heap.size, 1, none⟩ = some (.int .i64 at_) ∧ w'.cell? ⟨wr.heap.size, 3, none⟩ = some (.slice xA zs.length xc)) (first | exact ⟨m1, m3⟩ | exact ⟨(HCL.out w5 hq5).2.1, (HCL.out w5 hq5).2.2.2⟩ | exact ⟨(HCL.out w6 hq6).2.1, (HCL.out w6 hq6).2.2.2⟩ | exact ⟨(HCL.out w7 hq7).2.1, (HCL.out w7 hq7).2.2.2⟩) (first
          | (go_at_call 14; refine (both_d HB4d.out (fun F hF => write_any F db n at_ st sx A4 zs.length c4 zs q w4.drew hF rfl G4d.out hst9 HQ.out HT.out)).mono ?_; rintro e w5 ⟨rfl, hb5, hk5⟩; have HB5 := Lib.hid hb5; have hq5 : w5.heap[wr.heap.size]? = W1.heap[wr.heap.size]? := (hk5 _ (.inl rfl)).trans HC4.out; have HO5 := Lib.hid (row_kept HO4.out (w' := w5) (fun k e => hk5 k (.inr e))); clear hb5 hk5)
          | (go_at_call 15; refine (both_r HB5.out (fun G hG => rwrite_any G rb n at_ st sx xA zs.length xc zs q w5 hG rfl ((E0.out.below HB5.out.frame.1).good HB5.out.frame.2) hst9 HQ.out HT.out)).mono ?_; rintro e w6 ⟨rfl, hb6, hk6⟩; have HB6 := Lib.hid hb6; have hq6 : w6.heap[wr.heap.size]? = W1.heap[wr.heap.size]? := (hk6 _ (.inl rfl)).trans hq5; have HO6 := Lib.hid (row_kept HO5.out (w' := w6) (fun k e => hk6 k (.inr e))); have hl6 : wr.heap.size < w6.heap.size := hb6.xlt _ (.inl rfl); clear hb6 hk6)
          | (go_at_call 16; refine (sameB A4 xA zs zs c4 xc zs.length zs.length true rfl rfl (by omega) (by omega) (by simp) w6 (owns_slice HO6.out) ((E0.out.below HB6.out.frame.1).good HB6.out.frame.2)).mono ?_; rintro e w7 ⟨rfl, b7⟩; have hq7 : w7.heap[wr.heap.size]? = W1.heap[wr.heap.size]? := (b7.block _ hl6).trans hq6; have HB7 := Lib.hid (HB6.out.below b7); have HO7 : Hid (Owns W1.heap.size w7 (.slice A4 zs.length c4) zs) := Lib.hid (Owns.below HO6.out b7); clear b7))
        clear hq5 hq6 hq7 hl6 HB5 HB6 HO5 HO6 HB4d G4d
        go_wp2
        go_loopw [12] (fun k wq => ∃ (m : Nat) (ys : List Int), m ≤ zs.length ∧ k = .int .i64 m ∧ ys.length = zs.length ∧ Owns W1.heap.size wq (.slice A4 zs.length c4) ys ∧ Both w.heap.size w (fun k => k = wr.heap.size ∨ (Value.slice A4 zs.length c4).ownBlock = some k) wq db rb n sx sx) (fun k _ => zs.length - (intOf k).toNat)
        case atStart => exact ⟨0, zs, by omega, rfl, rfl, HO7.out, HB7.out⟩
        case round =>
          obtain ⟨m, ys, hmm, rfl, hyl, hoy, hbb⟩ := hrel
          have HYL := Lib.hid hyl
          have HOY := Lib.hid hoy
          have HBB := Lib.hid hbb
          clear hyl hoy hbb
          by_cases hmz : m < zs.length
          · have hmz' : (m : Int) < (zs.length : Int) := by omega
            obtain ⟨g4, cp4, ef, hg4b, hg4l⟩ := World.ownsRow.form HOY.out (by rw [HYL.out]; omega)
            simp only [Value.slice.injEq] at ef
            obtain ⟨rfl, hly, rfl⟩ := ef
            have hoy' : Owns W1.heap.size wr (.slice (some ⟨g4, 0, none⟩) ys.length c4) ys := by rw [HYL.out]; exact HOY.out
            obtain ⟨t1, t2⟩ := owns_cell hoy' (j := m) (by rw [HYL.out]; omega)
            have HOY' := Lib.hid hoy'
            clear hly hoy'
            generalize hyv : ys[m]?.getD 0 = yv at *
            clear hyv
            go_wp2
            refine ⟨⟨m + 1, ys.set m (bits BinOp.xor IntKind.u8 yv 255), by omega, by go_num, by rw [List.length_set, HYL.out], ?_, ?_⟩, by simp [intOf]; omega⟩
            · have hst := (World.ownsRow.stored HOY'.out m (.int .u8 (bits BinOp.xor IntKind.u8 yv 255))).1
              unfold Owns
              rw [List.length_set, List.map_set, ← HYL.out]
              exact hst
            · exact HBB.out.other (moves_setCell (fun k => k = g4) wr ⟨g4, m, none⟩ _ rfl) (fun k e => ⟨.inr (by subst e; rfl), by subst e; omega⟩)
          · obtain rfl : m = zs.length := by omega
            obtain ⟨w6, hw6⟩ : ∃ w6, w6 = wr := ⟨_, rfl⟩
            have HBX : Hid (Both w.heap.size w (fun _ => False) w6 db rb n sx sx) := Lib.hid (by rw [hw6]; exact HBB.out.less)
            subst hw6
            go_wp2
            go_loopw [13] (fun k wq => ∃ z : Int, -1 ≤ z ∧ z ≤ (n : Int) + 1 ∧ k = .int .i64 z ∧ Below w6.heap.size w6 wq) (fun k _ => ((n : Int) + 1 - intOf k).toNat)
            case atStart => exact ⟨-1, by omega, by omega, rfl, Below.refl _ _⟩
            case round =>
              obtain ⟨z, hz1, hz2, rfl, hbq⟩ := hrel
              obtain ⟨F, G, h1q, h2q, _, _, _, _, hfr, hfs⟩ := HBX.out.below hbq
              have H1q := Lib.hid h1q
              have H2q := Lib.hid h2q
              have HBQ := Lib.hid hbq
              have HFR := Lib.hid hfr
              have sq := hbq.size
              clear h1q h2q hbq hfr
              by_cases hzn : z ≤ n
              · have dz : decide (z ≤ (n : Int)) = true := by simpa using hzn
                cases hgz : goodAt n z with
                | true =>
                  have hzz : 0 ≤ z ∧ z < n := by simpa [goodAt] using hgz
                  obtain ⟨i, rfl⟩ := Int.eq_ofNat_of_zero_le hzz.1
                  have hin : i < n := by omega
                  have hnl : (nowAt sx i).length = 32 := H1q.out.wf.now_len hin
                  have HNL := Lib.hid hnl
                  clear hgz hzz hnl
                  go_wp2_with fail
                  refine (read_at F db n i sx _ wr H1q.out hin rfl).mono ?_
                  rintro e w7 ⟨b7, rfl, hr7, hl7, hg7, hb7⟩
                  have G7 := Lib.hid (good_of_range hr7 hg7 32 (Nat.le_of_eq HNL.out))
                  have HB7 := Lib.hid (HBQ.out.trans (hb7.mono sq))
                  have H2r := Lib.hid (H2q.out.below hb7)
                  clear hr7 hb7
                  go_wp2_with fail
                  refine (rread_ok G rb n i sx _ w7 H2r.out hin rfl (by omega)).mono ?_
                  rintro e w8 ⟨A8, c8, rfl, g8, b8⟩
                  have G8 := Lib.hid g8
                  have G7b := Lib.hid (G7.out.below b8)
                  have HB8 := Lib.hid (HB7.out.trans (b8.mono HB7.out.size))
                  clear g8 b8
                  rw [HNL.out]
                  go_wp2_with fail
                  refine (sameB _ A8 (nowAt sx i) (nowAt sx i) 32 c8 32 32 true HNL.out HNL.out (by omega) (by omega) (by simp) w8 G7b.out G8.out).mono ?_
                  rintro e w9 ⟨rfl, b9⟩
                  have HB9 := Lib.hid (HB8.out.trans (b9.mono HB8.out.size))
                  clear b9
                  go_wp2
                  go_roundw
                  case rel => exact ⟨(i : Int) + 1, by omega, by omega, rfl, HB9.out⟩
                  case measure => simp [intOf]; omega
                | false =>
                  have HGZ := Lib.hid hgz
                  clear hgz
                  go_wp2_with fail
                  refine (read_out F db n z sx wr H1q.out HGZ.out).mono ?_
                  rintro e w7 ⟨rfl, rfl⟩
                  go_wp2_with fail
                  refine (rread_no G rb n z sx wr H2q.out HGZ.out).mono ?_
                  rintro e w8 ⟨A8, c8, rfl, g8, b8⟩
                  have G8 := Lib.hid g8
                  have HB8 := Lib.hid (HBQ.out.trans (b8.mono sq))
                  clear g8 b8
                  rw [List.length_nil]
                  go_wp2_with fail
                  refine (sameB none A8 [] [] 0 c8 0 0 true rfl rfl (by omega) (by omega) rfl w8 (Good.nil w8) G8.out).mono ?_
                  rintro e w9 ⟨rfl, b9⟩
                  have HB9 := Lib.hid (HB8.out.trans (b9.mono HB8.out.size))
                  clear b9
                  go_wp2
                  go_roundw
                  case rel => exact ⟨z + 1, by omega, by omega, rfl, HB9.out⟩
                  case measure => simp [intOf]; omega
              · have dz : decide (z ≤ (n : Int)) = false := by simpa using hzn
                obtain ⟨cA, cC, hrc, hrl⟩ := (HBX.out.below HBQ.out).cells
                have hfl : sx.safe.flatten.length = 32 * n := flat_len sx.safe H1q.out.wf.len H1q.out.wf.secs
                obtain ⟨fz, hfz⟩ : ∃ fz, sx.safe.flatten = fz := ⟨_, rfl⟩
                rw [hfz] at hfl
                have HFL := Lib.hid hfl
                have HZF := Lib.hid hfz
                have H1d : Hid (DiskAt wr.drew F db n sx) := Lib.hid (H1q.out.below (below_drewN (Below.refl _ _) 1))
                have H2d : Hid (RefAt wr.drew G rb n sx) := Lib.hid (H2q.out.below (below_drewN (Below.refl _ _) 1))
                have u1 : ((sx.cache.length : Int) != (sx.cache.length : Int)) = false := by simp
                have u2 : ((n : Int) != (n : Int)) = false := by simp
                clear hfl hfz
                go_wp2
                go_region_held3 (fun w' => w'.cell? ⟨rb, 1, none⟩ = some (.slice cA sx.cache.length cC)) (first | exact hrc | exact (b7.cell (p := ⟨rb, 1, none⟩) hrl).trans hrc | exact (b8.cell (p := ⟨rb, 1, none⟩) (Nat.lt_of_lt_of_le hrl b7.size)).trans ((b7.cell (p := ⟨rb, 1, none⟩) hrl).trans hrc) | exact (b9.cell (p := ⟨rb, 1, none⟩) (Nat.lt_of_lt_of_le (Nat.lt_of_lt_of_le hrl b7.size) b8.size)).trans ((b8.cell (p := ⟨rb, 1, none⟩) (Nat.lt_of_lt_of_le hrl b7.size)).trans ((b7.cell (p := ⟨rb, 1, none⟩) hrl).trans hrc))) (first
                  | (go_at_call 23; refine (loose_at F db n _ sx wr.drew H1d.out rfl).mono ?_; rintro e w' ⟨rfl, rfl⟩)
                  | (go_at_call 24; refine (sectors_at F db n sx wr.drew H1d.out).mono ?_; rintro e w' ⟨rfl, rfl⟩)
                  | (go_at_call 25; refine (image_at F db n sx fz wr.drew H1d.out (by omega) HZF.out).mono ?_; rintro e w7 ⟨v7, rfl, o7, b7⟩; obtain ⟨A7, c7, rfl, g7⟩ := o7.good)
                  | (go_at_call 26; refine (rimage_any G rb n sx fz w7 (H2d.out.below b7) HZF.out).mono ?_; rintro e w8 ⟨v8, rfl, o8, b8⟩; obtain ⟨A8, c8, rfl, g8⟩ := o8.good)
                  | (go_at_call 16; refine (sameB A7 A8 fz fz c7 c8 _ _ true rfl rfl (by rw [HFL.out]; omega) (by rw [HFL.out]; omega) (by simp) w8 (g7.below b8) g8).mono ?_; rintro e w9 ⟨rfl, b9⟩))
                have b7' : Below wr.heap.size wr w7 := ⟨b7.os, b7.tape, b7.output, b7.size, b7.block⟩
                have hfinal := (((HBX.out.below HBQ.out).below b7').below b8).below b9
                have HFI := Lib.hid hfinal
                clear hfinal b7 b8 b9 b7' o7 o8 g7 g8 hrc
                go_wp2
                go_roundw
                case rel => exact ⟨j + 1, sx, by omega, by go_num, hclx, HFI.out⟩
                case measure => simp [intOf]; omega
      · have kw0 : (what == 0) = false := by simpa using hw0
        by_cases hw1 : what = 1
        · subst hw1
          have hdo : doS n st ⟨1, at_, tr, xA, xc, zs⟩ = flushS st := rfl
          go_wp2_with fail
          refine (both_d HB4.out (fun F hF => flush_any F db n st w4 hF (by omega))).mono ?_
          rintro e w5 ⟨rfl, hb5, _⟩
          have HB5 := Lib.hid hb5
          clear hb5
          go_wp2_with fail
          refine (both_r HB5.out (fun G hG => rflush_any G rb n st w5 hG (by omega))).mono ?_
          rintro e w6 ⟨rfl, hb6, _⟩
          have HBX := Lib.hid hb6.less
          have hclx : (flushS st).cache.length ≤ j + 1 := by simp [flushS]
          clear hb6 HB5 hdo
          generalize flushS st = sx at *
          go_wp2
          go_loopw [13] (fun k wq => ∃ z : Int, -1 ≤ z ∧ z ≤ (n : Int) + 1 ∧ k = .int .i64 z ∧ Below w6.heap.size w6 wq) (fun k _ => ((n : Int) + 1 - intOf k).toNat)
          case atStart => exact ⟨-1, by omega, by omega, rfl, Below.refl _ _⟩
          case round =>
            obtain ⟨z, hz1, hz2, rfl, hbq⟩ := hrel
            obtain ⟨F, G, h1q, h2q, _, _, _, _, hfr, hfs⟩ := HBX.out.below hbq
            have H1q := Lib.hid h1q
            have H2q := Lib.hid h2q
            have HBQ := Lib.hid hbq
            have HFR := Lib.hid hfr
            have sq := hbq.size
            clear h1q h2q hbq hfr
            by_cases hzn : z ≤ n
            · have dz : decide (z ≤ (n : Int)) = true := by simpa using hzn
              cases hgz : goodAt n z with
              | true =>
                have hzz : 0 ≤ z ∧ z < n := by simpa [goodAt] using hgz
                obtain ⟨i, rfl⟩ := Int.eq_ofNat_of_zero_le hzz.1
                have hin : i < n := by omega
                have hnl : (nowAt sx i).length = 32 := H1q.out.wf.now_len hin
                have HNL := Lib.hid hnl
                clear hgz hzz hnl
                go_wp2_with fail
                refine (read_at F db n i sx _ wr H1q.out hin rfl).mono ?_
                rintro e w7 ⟨b7, rfl, hr7, hl7, hg7, hb7⟩
                have G7 := Lib.hid (good_of_range hr7 hg7 32 (Nat.le_of_eq HNL.out))
                have HB7 := Lib.hid (HBQ.out.trans (hb7.mono sq))
                have H2r := Lib.hid (H2q.out.below hb7)
                clear hr7 hb7
                go_wp2_with fail
                refine (rread_ok G rb n i sx _ w7 H2r.out hin rfl (by omega)).mono ?_
                rintro e w8 ⟨A8, c8, rfl, g8, b8⟩
                have G8 := Lib.hid g8
                have G7b := Lib.hid (G7.out.below b8)
                have HB8 := Lib.hid (HB7.out.trans (b8.mono HB7.out.size))
                clear g8 b8
                rw [HNL.out]
                go_wp2_with fail
                refine (sameB _ A8 (nowAt sx i) (nowAt sx i) 32 c8 32 32 true HNL.out HNL.out (by omega) (by omega) (by simp) w8 G7b.out G8.out).mono ?_
                rintro e w9 ⟨rfl, b9⟩
                have HB9 := Lib.hid (HB8.out.trans (b9.mono HB8.out.size))
                clear b9
                go_wp2
                go_roundw
                case rel => exact ⟨(i : Int) + 1, by omega, by omega, rfl, HB9.out⟩
                case measure => simp [intOf]; omega
              | false =>
                have HGZ := Lib.hid hgz
                clear hgz
                go_wp2_with fail
                refine (read_out F db n z sx wr H1q.out HGZ.out).mono ?_
                rintro e w7 ⟨rfl, rfl⟩
                go_wp2_with fail
                refine (rread_no G rb n z sx wr H2q.out HGZ.out).mono ?_
                rintro e w8 ⟨A8, c8, rfl, g8, b8⟩
                have G8 := Lib.hid g8
                have HB8 := Lib.hid (HBQ.out.trans (b8.mono sq))
                clear g8 b8
                rw [List.length_nil]
                go_wp2_with fail
                refine (sameB none A8 [] [] 0 c8 0 0 true rfl rfl (by omega) (by omega) rfl w8 (Good.nil w8) G8.out).mono ?_
                rintro e w9 ⟨rfl, b9⟩
                have HB9 := Lib.hid (HB8.out.trans (b9.mono HB8.out.size))
                clear b9
                go_wp2
                go_roundw
                case rel => exact ⟨z + 1, by omega, by omega, rfl, HB9.out⟩
                case measure => simp [intOf]; omega
            · have dz : decide (z ≤ (n : Int)) = false := by simpa using hzn
              obtain ⟨cA, cC, hrc, hrl⟩ := (HBX.out.below HBQ.out).cells
              have hfl : sx.safe.flatten.length = 32 * n := flat_len sx.safe H1q.out.wf.len H1q.out.wf.secs
              obtain ⟨fz, hfz⟩ : ∃ fz, sx.safe.flatten = fz := ⟨_, rfl⟩
              rw [hfz] at hfl
              have HFL := Lib.hid hfl
              have HZF := Lib.hid hfz
              have H1d : Hid (DiskAt wr.drew F db n sx) := Lib.hid (H1q.out.below (below_drewN (Below.refl _ _) 1))
              have H2d : Hid (RefAt wr.drew G rb n sx) := Lib.hid (H2q.out.below (below_drewN (Below.refl _ _) 1))
              have u1 : ((sx.cache.length : Int) != (sx.cache.length : Int)) = false := by simp
              have u2 : ((n : Int) != (n : Int)) = false := by simp
              clear hfl hfz
              go_wp2
              go_region_held3 (fun w' => w'.cell? ⟨rb, 1, none⟩ = some (.slice cA sx.cache.length cC)) (first | exact hrc | exact (b7.cell (p := ⟨rb, 1, none⟩) hrl).trans hrc | exact (b8.cell (p := ⟨rb, 1, none⟩) (Nat.lt_of_lt_of_le hrl b7.size)).trans ((b7.cell (p := ⟨rb, 1, none⟩) hrl).trans hrc) | exact (b9.cell (p := ⟨rb, 1, none⟩) (Nat.lt_of_lt_of_le (Nat.lt_of_lt_of_le hrl b7.size) b8.size)).trans ((b8.cell (p := ⟨rb, 1, none⟩) (Nat.lt_of_lt_of_le hrl b7.size)).trans ((b7.cell (p := ⟨rb, 1, none⟩) hrl).trans hrc))) (first
                | (go_at_call 23; refine (loose_at F db n _ sx wr.drew H1d.out rfl).mono ?_; rintro e w' ⟨rfl, rfl⟩)
                | (go_at_call 24; refine (sectors_at F db n sx wr.drew H1d.out).mono ?_; rintro e w' ⟨rfl, rfl⟩)
                | (go_at_call 25; refine (image_at F db n sx fz wr.drew H1d.out (by omega) HZF.out).mono ?_; rintro e w7 ⟨v7, rfl, o7, b7⟩; obtain ⟨A7, c7, rfl, g7⟩ := o7.good)
                | (go_at_call 26; refine (rimage_any G rb n sx fz w7 (H2d.out.below b7) HZF.out).mono ?_; rintro e w8 ⟨v8, rfl, o8, b8⟩; obtain ⟨A8, c8, rfl, g8⟩ := o8.good)
                | (go_at_call 16; refine (sameB A7 A8 fz fz c7 c8 _ _ true rfl rfl (by rw [HFL.out]; omega) (by rw [HFL.out]; omega) (by simp) w8 (g7.below b8) g8).mono ?_; rintro e w9 ⟨rfl, b9⟩))
              have b7' : Below wr.heap.size wr w7 := ⟨b7.os, b7.tape, b7.output, b7.size, b7.block⟩
              have hfinal := (((HBX.out.below HBQ.out).below b7').below b8).below b9
              have HFI := Lib.hid hfinal
              clear hfinal b7 b8 b9 b7' o7 o8 g7 g8 hrc
              go_wp2
              go_roundw
              case rel => exact ⟨j + 1, sx, by omega, by go_num, hclx, HFI.out⟩
              case measure => simp [intOf]; omega
        · have kw1 : (what == 1) = false := by simpa using hw1
          by_cases hw2 : what = 2
          · subst hw2
            go_wp2_with fail
            refine (both_d HB4.out (fun F hF => crash_any F db n st at_ tr w4 hF (by omega))).mono ?_
            rintro e w5 ⟨rfl, hb5, hk5⟩
            have HB5 := Lib.hid hb5
            obtain ⟨_, p1, p2, _⟩ := HCL.out w5 ((hk5 _ (.inl rfl)).trans HC4.out)
            clear hb5
            go_wp2_with fail
            refine (both_r HB5.out (fun G hG => rcrash_any G rb n st _ at_ tr w5 hG (by omega) rfl)).mono ?_
            rintro e w6 ⟨rfl, hb6, _⟩
            have HBX := Lib.hid hb6.less
            have hclx : (crashS st at_ tr).cache.length ≤ j + 1 := by simp [crashS]
            clear hb6 HB5 hk5 p1 p2
            generalize crashS st at_ tr = sx at *
            go_wp2
            go_loopw [13] (fun k wq => ∃ z : Int, -1 ≤ z ∧ z ≤ (n : Int) + 1 ∧ k = .int .i64 z ∧ Below w6.heap.size w6 wq) (fun k _ => ((n : Int) + 1 - intOf k).toNat)
            case atStart => exact ⟨-1, by omega, by omega, rfl, Below.refl _ _⟩
            case round =>
              obtain ⟨z, hz1, hz2, rfl, hbq⟩ := hrel
              obtain ⟨F, G, h1q, h2q, _, _, _, _, hfr, hfs⟩ := HBX.out.below hbq
              have H1q := Lib.hid h1q
              have H2q := Lib.hid h2q
              have HBQ := Lib.hid hbq
              have HFR := Lib.hid hfr
              have sq := hbq.size
              clear h1q h2q hbq hfr
              by_cases hzn : z ≤ n
              · have dz : decide (z ≤ (n : Int)) = true := by simpa using hzn
                cases hgz : goodAt n z with
                | true =>
                  have hzz : 0 ≤ z ∧ z < n := by simpa [goodAt] using hgz
                  obtain ⟨i, rfl⟩ := Int.eq_ofNat_of_zero_le hzz.1
                  have hin : i < n := by omega
                  have hnl : (nowAt sx i).length = 32 := H1q.out.wf.now_len hin
                  have HNL := Lib.hid hnl
                  clear hgz hzz hnl
                  go_wp2_with fail
                  refine (read_at F db n i sx _ wr H1q.out hin rfl).mono ?_
                  rintro e w7 ⟨b7, rfl, hr7, hl7, hg7, hb7⟩
                  have G7 := Lib.hid (good_of_range hr7 hg7 32 (Nat.le_of_eq HNL.out))
                  have HB7 := Lib.hid (HBQ.out.trans (hb7.mono sq))
                  have H2r := Lib.hid (H2q.out.below hb7)
                  clear hr7 hb7
                  go_wp2_with fail
                  refine (rread_ok G rb n i sx _ w7 H2r.out hin rfl (by omega)).mono ?_
                  rintro e w8 ⟨A8, c8, rfl, g8, b8⟩
                  have G8 := Lib.hid g8
                  have G7b := Lib.hid (G7.out.below b8)
                  have HB8 := Lib.hid (HB7.out.trans (b8.mono HB7.out.size))
                  clear g8 b8
                  rw [HNL.out]
                  go_wp2_with fail
                  refine (sameB _ A8 (nowAt sx i) (nowAt sx i) 32 c8 32 32 true HNL.out HNL.out (by omega) (by omega) (by simp) w8 G7b.out G8.out).mono ?_
                  rintro e w9 ⟨rfl, b9⟩
                  have HB9 := Lib.hid (HB8.out.trans (b9.mono HB8.out.size))
                  clear b9
                  go_wp2
                  go_roundw
                  case rel => exact ⟨(i : Int) + 1, by omega, by omega, rfl, HB9.out⟩
                  case measure => simp [intOf]; omega
                | false =>
                  have HGZ := Lib.hid hgz
                  clear hgz
                  go_wp2_with fail
                  refine (read_out F db n z sx wr H1q.out HGZ.out).mono ?_
                  rintro e w7 ⟨rfl, rfl⟩
                  go_wp2_with fail
                  refine (rread_no G rb n z sx wr H2q.out HGZ.out).mono ?_
                  rintro e w8 ⟨A8, c8, rfl, g8, b8⟩
                  have G8 := Lib.hid g8
                  have HB8 := Lib.hid (HBQ.out.trans (b8.mono sq))
                  clear g8 b8
                  rw [List.length_nil]
                  go_wp2_with fail
                  refine (sameB none A8 [] [] 0 c8 0 0 true rfl rfl (by omega) (by omega) rfl w8 (Good.nil w8) G8.out).mono ?_
                  rintro e w9 ⟨rfl, b9⟩
                  have HB9 := Lib.hid (HB8.out.trans (b9.mono HB8.out.size))
                  clear b9
                  go_wp2
                  go_roundw
                  case rel => exact ⟨z + 1, by omega, by omega, rfl, HB9.out⟩
                  case measure => simp [intOf]; omega
              · have dz : decide (z ≤ (n : Int)) = false := by simpa using hzn
                obtain ⟨cA, cC, hrc, hrl⟩ := (HBX.out.below HBQ.out).cells
                have hfl : sx.safe.flatten.length = 32 * n := flat_len sx.safe H1q.out.wf.len H1q.out.wf.secs
                obtain ⟨fz, hfz⟩ : ∃ fz, sx.safe.flatten = fz := ⟨_, rfl⟩
                rw [hfz] at hfl
                have HFL := Lib.hid hfl
                have HZF := Lib.hid hfz
                have H1d : Hid (DiskAt wr.drew F db n sx) := Lib.hid (H1q.out.below (below_drewN (Below.refl _ _) 1))
                have H2d : Hid (RefAt wr.drew G rb n sx) := Lib.hid (H2q.out.below (below_drewN (Below.refl _ _) 1))
                have u1 : ((sx.cache.length : Int) != (sx.cache.length : Int)) = false := by simp
                have u2 : ((n : Int) != (n : Int)) = false := by simp
                clear hfl hfz
                go_wp2
                go_region_held3 (fun w' => w'.cell? ⟨rb, 1, none⟩ = some (.slice cA sx.cache.length cC)) (first | exact hrc | exact (b7.cell (p := ⟨rb, 1, none⟩) hrl).trans hrc | exact (b8.cell (p := ⟨rb, 1, none⟩) (Nat.lt_of_lt_of_le hrl b7.size)).trans ((b7.cell (p := ⟨rb, 1, none⟩) hrl).trans hrc) | exact (b9.cell (p := ⟨rb, 1, none⟩) (Nat.lt_of_lt_of_le (Nat.lt_of_lt_of_le hrl b7.size) b8.size)).trans ((b8.cell (p := ⟨rb, 1, none⟩) (Nat.lt_of_lt_of_le hrl b7.size)).trans ((b7.cell (p := ⟨rb, 1, none⟩) hrl).trans hrc))) (first
                  | (go_at_call 23; refine (loose_at F db n _ sx wr.drew H1d.out rfl).mono ?_; rintro e w' ⟨rfl, rfl⟩)
                  | (go_at_call 24; refine (sectors_at F db n sx wr.drew H1d.out).mono ?_; rintro e w' ⟨rfl, rfl⟩)
                  | (go_at_call 25; refine (image_at F db n sx fz wr.drew H1d.out (by omega) HZF.out).mono ?_; rintro e w7 ⟨v7, rfl, o7, b7⟩; obtain ⟨A7, c7, rfl, g7⟩ := o7.good)
                  | (go_at_call 26; refine (rimage_any G rb n sx fz w7 (H2d.out.below b7) HZF.out).mono ?_; rintro e w8 ⟨v8, rfl, o8, b8⟩; obtain ⟨A8, c8, rfl, g8⟩ := o8.good)
                  | (go_at_call 16; refine (sameB A7 A8 fz fz c7 c8 _ _ true rfl rfl (by rw [HFL.out]; omega) (by rw [HFL.out]; omega) (by simp) w8 (g7.below b8) g8).mono ?_; rintro e w9 ⟨rfl, b9⟩))
                have b7' : Below wr.heap.size wr w7 := ⟨b7.os, b7.tape, b7.output, b7.size, b7.block⟩
                have hfinal := (((HBX.out.below HBQ.out).below b7').below b8).below b9
                have HFI := Lib.hid hfinal
                clear hfinal b7 b8 b9 b7' o7 o8 g7 g8 hrc
                go_wp2
                go_roundw
                case rel => exact ⟨j + 1, sx, by omega, by go_num, hclx, HFI.out⟩
                case measure => simp [intOf]; omega
          · have kw2 : (what == 2) = false := by simpa using hw2
            have HBX := Lib.hid HB4.out.less
            have hclx : st.cache.length ≤ j + 1 := by omega
            clear HB4
            obtain ⟨w6, hw6⟩ : ∃ w6, w6 = w4 := ⟨_, rfl⟩
            subst hw6
            obtain ⟨sx, hsx⟩ : ∃ sx, sx = st := ⟨_, rfl⟩
            subst hsx
            go_wp2
            go_loopw [13] (fun k wq => ∃ z : Int, -1 ≤ z ∧ z ≤ (n : Int) + 1 ∧ k = .int .i64 z ∧ Below w6.heap.size w6 wq) (fun k _ => ((n : Int) + 1 - intOf k).toNat)
            case atStart => exact ⟨-1, by omega, by omega, rfl, Below.refl _ _⟩
            case round =>
              obtain ⟨z, hz1, hz2, rfl, hbq⟩ := hrel
              obtain ⟨F, G, h1q, h2q, _, _, _, _, hfr, hfs⟩ := HBX.out.below hbq
              have H1q := Lib.hid h1q
              have H2q := Lib.hid h2q
              have HBQ := Lib.hid hbq
              have HFR := Lib.hid hfr
              have sq := hbq.size
              clear h1q h2q hbq hfr
              by_cases hzn : z ≤ n
              · have dz : decide (z ≤ (n : Int)) = true := by simpa using hzn
                cases hgz : goodAt n z with
                | true =>
                  have hzz : 0 ≤ z ∧ z < n := by simpa [goodAt] using hgz
                  obtain ⟨i, rfl⟩ := Int.eq_ofNat_of_zero_le hzz.1
                  have hin : i < n := by omega
                  have hnl : (nowAt sx i).length = 32 := H1q.out.wf.now_len hin
                  have HNL := Lib.hid hnl
                  clear hgz hzz hnl
                  go_wp2_with fail
                  refine (read_at F db n i sx _ wr H1q.out hin rfl).mono ?_
                  rintro e w7 ⟨b7, rfl, hr7, hl7, hg7, hb7⟩
                  have G7 := Lib.hid (good_of_range hr7 hg7 32 (Nat.le_of_eq HNL.out))
                  have HB7 := Lib.hid (HBQ.out.trans (hb7.mono sq))
                  have H2r := Lib.hid (H2q.out.below hb7)
                  clear hr7 hb7
                  go_wp2_with fail
                  refine (rread_ok G rb n i sx _ w7 H2r.out hin rfl (by omega)).mono ?_
                  rintro e w8 ⟨A8, c8, rfl, g8, b8⟩
                  have G8 := Lib.hid g8
                  have G7b := Lib.hid (G7.out.below b8)
                  have HB8 := Lib.hid (HB7.out.trans (b8.mono HB7.out.size))
                  clear g8 b8
                  rw [HNL.out]
                  go_wp2_with fail
                  refine (sameB _ A8 (nowAt sx i) (nowAt sx i) 32 c8 32 32 true HNL.out HNL.out (by omega) (by omega) (by simp) w8 G7b.out G8.out).mono ?_
                  rintro e w9 ⟨rfl, b9⟩
                  have HB9 := Lib.hid (HB8.out.trans (b9.mono HB8.out.size))
                  clear b9
                  go_wp2
                  go_roundw
                  case rel => exact ⟨(i : Int) + 1, by omega, by omega, rfl, HB9.out⟩
                  case measure => simp [intOf]; omega
                | false =>
                  have HGZ := Lib.hid hgz
                  clear hgz
                  go_wp2_with fail
                  refine (read_out F db n z sx wr H1q.out HGZ.out).mono ?_
                  rintro e w7 ⟨rfl, rfl⟩
                  go_wp2_with fail
                  refine (rread_no G rb n z sx wr H2q.out HGZ.out).mono ?_
                  rintro e w8 ⟨A8, c8, rfl, g8, b8⟩
                  have G8 := Lib.hid g8
                  have HB8 := Lib.hid (HBQ.out.trans (b8.mono sq))
                  clear g8 b8
                  rw [List.length_nil]
                  go_wp2_with fail
                  refine (sameB none A8 [] [] 0 c8 0 0 true rfl rfl (by omega) (by omega) rfl w8 (Good.nil w8) G8.out).mono ?_
                  rintro e w9 ⟨rfl, b9⟩
                  have HB9 := Lib.hid (HB8.out.trans (b9.mono HB8.out.size))
                  clear b9
                  go_wp2
                  go_roundw
                  case rel => exact ⟨z + 1, by omega, by omega, rfl, HB9.out⟩
                  case measure => simp [intOf]; omega
              · have dz : decide (z ≤ (n : Int)) = false := by simpa using hzn
                obtain ⟨cA, cC, hrc, hrl⟩ := (HBX.out.below HBQ.out).cells
                have hfl : sx.safe.flatten.length = 32 * n := flat_len sx.safe H1q.out.wf.len H1q.out.wf.secs
                obtain ⟨fz, hfz⟩ : ∃ fz, sx.safe.flatten = fz := ⟨_, rfl⟩
                rw [hfz] at hfl
                have HFL := Lib.hid hfl
                have HZF := Lib.hid hfz
                have H1d : Hid (DiskAt wr.drew F db n sx) := Lib.hid (H1q.out.below (below_drewN (Below.refl _ _) 1))
                have H2d : Hid (RefAt wr.drew G rb n sx) := Lib.hid (H2q.out.below (below_drewN (Below.refl _ _) 1))
                have u1 : ((sx.cache.length : Int) != (sx.cache.length : Int)) = false := by simp
                have u2 : ((n : Int) != (n : Int)) = false := by simp
                clear hfl hfz
                go_wp2
                go_region_held3 (fun w' => w'.cell? ⟨rb, 1, none⟩ = some (.slice cA sx.cache.length cC)) (first | exact hrc | exact (b7.cell (p := ⟨rb, 1, none⟩) hrl).trans hrc | exact (b8.cell (p := ⟨rb, 1, none⟩) (Nat.lt_of_lt_of_le hrl b7.size)).trans ((b7.cell (p := ⟨rb, 1, none⟩) hrl).trans hrc) | exact (b9.cell (p := ⟨rb, 1, none⟩) (Nat.lt_of_lt_of_le (Nat.lt_of_lt_of_le hrl b7.size) b8.size)).trans ((b8.cell (p := ⟨rb, 1, none⟩) (Nat.lt_of_lt_of_le hrl b7.size)).trans ((b7.cell (p := ⟨rb, 1, none⟩) hrl).trans hrc))) (first
                  | (go_at_call 23; refine (loose_at F db n _ sx wr.drew H1d.out rfl).mono ?_; rintro e w' ⟨rfl, rfl⟩)
                  | (go_at_call 24; refine (sectors_at F db n sx wr.drew H1d.out).mono ?_; rintro e w' ⟨rfl, rfl⟩)
                  | (go_at_call 25; refine (image_at F db n sx fz wr.drew H1d.out (by omega) HZF.out).mono ?_; rintro e w7 ⟨v7, rfl, o7, b7⟩; obtain ⟨A7, c7, rfl, g7⟩ := o7.good)
                  | (go_at_call 26; refine (rimage_any G rb n sx fz w7 (H2d.out.below b7) HZF.out).mono ?_; rintro e w8 ⟨v8, rfl, o8, b8⟩; obtain ⟨A8, c8, rfl, g8⟩ := o8.good)
                  | (go_at_call 16; refine (sameB A7 A8 fz fz c7 c8 _ _ true rfl rfl (by rw [HFL.out]; omega) (by rw [HFL.out]; omega) (by simp) w8 (g7.below b8) g8).mono ?_; rintro e w9 ⟨rfl, b9⟩))
                have b7' : Below wr.heap.size wr w7 := ⟨b7.os, b7.tape, b7.output, b7.size, b7.block⟩
                have hfinal := (((HBX.out.below HBQ.out).below b7').below b8).below b9
                have HFI := Lib.hid hfinal
                clear hfinal b7 b8 b9 b7' o7 o8 g7 g8 hrc
                go_wp2
                go_roundw
                case rel => exact ⟨j + 1, sx, by omega, by go_num, hclx, HFI.out⟩
                case measure => simp [intOf]; omega
    · obtain rfl : j = l := by omega
      go_wp2
      go_ret
      exact ⟨rfl, hbr⟩
end Go.Proofs.Ytckkgcogkcljeaa
