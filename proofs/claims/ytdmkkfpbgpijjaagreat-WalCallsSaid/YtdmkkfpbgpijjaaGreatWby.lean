/- WalCalls: the walk, over a log and the document's own. -/
import Derived.Test.YtdmkkfpbgpijjaaGreatWbx
import Derived.Deep.DeepCutAuto
import Derived.Deep.Cut
import Derived.Deep.CutRange
import Derived.Deep.CutBlock
import Derived.Deep.LoopGhost
import Derived.BigQuiet
namespace Go.Proofs.YtdmkkfpbgpijjaaGreat
open Go.RowKit Go.Deep Go.Maps
set_option linter.unusedVariables false
attribute [local go_sem ↓] Go.wp_at_zero Go.wp_at_succ

theorem sumR_take (cs : List Call5) (k : Nat) : sumR (cs.take k) ≤ sumR cs := by
  unfold sumR
  conv => rhs; rw [← List.take_append_drop k cs]
  rw [List.map_append, List.sum_append]; omega
set_option maxRecDepth 100000 in
set_option maxHeartbeats 20000000 in
theorem wcalls_in (HA : AllAns) (N : Nat) (A : Option Addr) (cs : List Call5) (l c : Nat) (w : World) (h1 : 1 ≤ N) (h2 : N ≤ 60) (h : Calls5 w A cs) (hl : cs.length = l) (hm : l ≤ maxLen) (hok : ∀ x ∈ cs, okCall5 x) :
    Calls Tryz.prog 3 #[.int .i64 N, .slice A l c] w fun e w' => e = .returned (.bool true) ∧ Below w.heap.size w w' := by
  have HL := Lib.hid hl
  have HOK := Lib.hid hok
  have d1 : decide ((N : Int) < 1) = false := by simp; omega
  have d2 : decide ((60 : Int) < (N : Int)) = false := by simp; omega
  have cA := fun W => alive5 walOK W
  have cG := fun W (hW : Below w.heap.size w W) => great5 A cs l c W (h.below hW) hl hm hok
  clear hl hok
  go_enter Tryz.func3, Tryz.ntmps3
  go_wp2_with fail
  refine (cA _).mono ?_
  rintro e w1 ⟨rfl, b1⟩
  have s1 := b1.size
  go_wp2_with fail
  refine (cG w1 b1).mono ?_
  rintro e w1' ⟨b, rfl, rfl, hfew⟩
  clear cA cG
  cases b with
  | true =>
    go_wp2
    go_ret
    exact ⟨rfl, b1⟩
  | false =>
    have HF := Lib.hid (hfew rfl)
    clear hfew
    go_wp2_with fail
    refine (new_ok N w1 h1 (by omega)).mono ?_
    rintro e w2 ⟨db, rfl, hd2, b2⟩
    have HD2 := Lib.hid hd2
    have s2 := b2.size
    clear hd2
    go_wp2_with fail
    refine (rnew_ok N w2 h1 h2).mono ?_
    rintro e w3 ⟨G, rb, rfl, hr3, hG3, b3⟩
    have hB : Both w.heap.size w (fun _ => False) w3 db rb N (newS N) (newS N) := ⟨_, G, HD2.out.below b3, hr3, fun k hf hg => by have := hG3 k hg; omega, fun k hk => by omega, fun k hk => by have := hG3 k hk; omega, fun _ e => e.elim, (b1.trans (b2.mono s1)).trans (b3.mono (by omega)), by have := b3.size; omega⟩
    have cO := open_both hB (bytes_new N) ⟨1, 1, 1⟩ [] (tells_new N)
    have HB3 := Lib.hid hB
    clear hB hr3 hG3 b3 HD2 b1 b2
    go_wp2_with fail
    refine cO.mono ?_
    clear cO
    rintro e w4 ⟨lb, v4, FL, rfl, l4, f4, o4, _, b4⟩
    have cR := ropen_both HA (HB3.out.below b4) (bytes_new N) h1 h2 (by simp [newS]) _ (tells_new N)
    obtain ⟨A4, c4, rfl, _⟩ := o4.good
    have HL4 := Lib.hid l4
    have HF4 := Lib.hid f4
    have HB4 := Lib.hid b4
    clear l4 f4 o4 b4
    go_wp2_with fail
    refine cR.mono ?_
    clear cR
    intro e w5 hs
    unfold ROpenSays at hs
    obtain ⟨gb, v5, rfl, r5, hg5, o5, _, b5⟩ := hs
    obtain ⟨A5, c5, rfl, _⟩ := o5.good
    have HP := Lib.hid (HB3.out.pair (bytes_new N) (logOK_new N h1) HB4.out HL4.out HF4.out b5 r5 hg5)
    clear HL4 HF4 HB4 HB3 r5 hg5 o5 b5
    go_wp2
    go_loopg [9, 11, 14] l (fun g sl sx si wr => ∃ (j : Nat) (st : St), j ≤ l ∧ g = l - j ∧ si = .int .i64 j ∧ st.cache.length ≤ 2 * sumR (cs.take j) + j ∧ BytesD st ∧ Stand w.heap.size w (fun _ => False) wr db rb N st sl sx)
    case atStart => exact ⟨0, newS N, Nat.zero_le _, rfl, rfl, by simp [newS, sumR], bytes_new N, .inl ⟨lb, gb, _, rfl, rfl, HP.out⟩⟩
    case round =>
      clear HP
      obtain ⟨j, st, hj, rfl, rfl, hcl, hby, hst⟩ := hrel
      rcases hst with ⟨lb, gb, lg, rfl, rfl, hp⟩ | ⟨rfl, rfl, hp⟩
      · by_cases hlt : j < l
        · have hlti : (j : Int) < (l : Int) := by omega
          have hltd : decide (j < l) = true := by simpa using hlt
          have hjl : j < cs.length := by rw [HL.out]; exact hlt
          have hbr := hp.below
          have sbr := hp.size
          obtain ⟨b, off, rfl, hbl, hat⟩ := (h.below hbr) (by omega)
          have hx : cs[j]? = some cs[j] := List.getElem?_eq_getElem hjl
          have hc5 := (hat j _ hx).row
          have HX : Hid (∀ W, Below w.heap.size w W → Call5At W b (off + j * 6) cs[j]) := Lib.hid (fun W hW => by
            obtain ⟨b', off', e, _, hat'⟩ := (h.below hW) (by omega)
            cases e
            exact hat' j _ hx)
          have HSN := Lib.hid (sumR_snoc cs j hjl)
          have okx := HOK.out cs[j] (List.getElem_mem _)
          have hz100 := HF.out.data cs[j] (List.getElem_mem _)
          have hsum : sumR (cs.take (j + 1)) ≤ 200 := Nat.le_trans (sumR_take cs (j + 1)) HF.out.recs
          have hl50 : l ≤ 50 := by have := HF.out.len; rw [HL.out] at this; exact this
          generalize cs[j] = x at *
          obtain ⟨what, spare, keep, tear, xA, xc, rs, xD, xd, zs⟩ := x
          obtain ⟨oks, okz, hsp, hke, hte, hwh, _, _⟩ := okx
          have x0 : wr.cell? ⟨b, off + j * 6, none⟩ = some (.int .i64 what) := hc5 0 _ rfl
          have x1 : wr.cell? ⟨b, off + j * 6 + 1, none⟩ = some (.int .i64 spare) := hc5 1 _ rfl
          have x2 : wr.cell? ⟨b, off + j * 6 + 2, none⟩ = some (.int .i64 keep) := hc5 2 _ rfl
          have x3 : wr.cell? ⟨b, off + j * 6 + 3, none⟩ = some (.int .i64 tear) := hc5 3 _ rfl
          have x4 : wr.cell? ⟨b, off + j * 6 + 4, none⟩ = some (.slice xA rs.length xc) := hc5 4 _ rfl
          have x5 : wr.cell? ⟨b, off + j * 6 + 5, none⟩ = some (.slice xD zs.length xd) := hc5 5 _ rfl
          obtain ⟨r, hr⟩ : ∃ r, rs.length = r := ⟨_, rfl⟩
          obtain ⟨z, hz⟩ : ∃ z, zs.length = z := ⟨_, rfl⟩
          simp only [hr, hz] at x4 x5 HSN hz100
          have HS1 := Lib.hid (show sumR (cs.take (j + 1)) = sumR (cs.take j) + r from HSN.out)
          have hr200 : r ≤ 200 := by have := HS1.out; omega
          have hca : st.cache.length + 2 * r ≤ 900 := by have := HS1.out; omega
          have HR := Lib.hid hr
          have HZ := Lib.hid hz
          have HCL := Lib.hid hcl
          have HBY := Lib.hid hby
          have HPP := Lib.hid hp
          have HOS := Lib.hid oks
          have HOZ := Lib.hid okz
          have HBR := Lib.hid hbr
          have HIK := Lib.hid (And.intro hsp (And.intro hke hte))
          clear hr hz hcl hby hp oks okz hbr hsp hke hte hwh hc5 hx hat hsum HSN
          go_upto_block 2 with fail
          have hal : Below wr.heap.size wr (wr.alloc (.cells #[.int .i64 what, .int .i64 spare, .int .i64 keep, .int .i64 tear, .slice xA r xc, .slice xD z xd] 41)) := (Below.refl _ _).alloc (Nat.le_refl _) _
          have hcb := heap_alloc_new wr (.cells #[.int .i64 what, .int .i64 spare, .int .i64 keep, .int .i64 tear, .slice xA r xc, .slice xD z xd] 41)
          have hzW : (wr.alloc (.cells #[.int .i64 what, .int .i64 spare, .int .i64 keep, .int .i64 tear, .slice xA r xc, .slice xD z xd] 41)).heap.size = wr.heap.size + 1 := by simp
          generalize (wr.alloc (.cells #[.int .i64 what, .int .i64 spare, .int .i64 keep, .int .i64 tear, .slice xA r xc, .slice xD z xd] 41)) = W1 at *
          obtain ⟨cb, hcbe⟩ : ∃ cb, wr.heap.size = cb := ⟨_, rfl⟩
          have HP1 : Hid (Pair w.heap.size w (fun k => k = cb) W1 lb db gb rb N st lg st lg) := Lib.hid (HPP.out.fresh hal (fun k hk => by omega))
          have HBW : Hid (Below w.heap.size w W1) := Lib.hid (HBR.out.trans (hal.mono sbr))
          have hcell : ∀ W : World, W.heap[cb]? = W1.heap[cb]? → W.cell? ⟨cb, 0, none⟩ = some (.int .i64 what) ∧ W.cell? ⟨cb, 1, none⟩ = some (.int .i64 spare) ∧ W.cell? ⟨cb, 2, none⟩ = some (.int .i64 keep) ∧ W.cell? ⟨cb, 3, none⟩ = some (.int .i64 tear) ∧ W.cell? ⟨cb, 4, none⟩ = some (.slice xA r xc) ∧ W.cell? ⟨cb, 5, none⟩ = some (.slice xD z xd) := fun W hW => by
            rw [← hcbe] at hW ⊢
            refine ⟨?_, ?_, ?_, ?_, ?_, ?_⟩ <;> (rw [cell_of_row _ _ _ _ _ _ (hW.trans hcb)]; rfl)
          have HCE := Lib.hid hcell
          have hcs1 : cb < W1.heap.size := by omega
          rw [hcbe]
          clear hal hcb hzW hcbe hcell HPP HBR x0 x1 x2 x3 x4 x5 sbr hbl
          go_cut [9, 11] (fun sl sx wx => ∃ st' : St, st'.cache.length ≤ 2 * sumR (cs.take (j + 1)) + (j + 1) ∧ BytesD st' ∧ Stand w.heap.size w (fun k => k = cb) wx db rb N st' sl sx ∧ wx.heap[cb]? = W1.heap[cb]?)
          case first =>
            obtain ⟨ok5, hby, hwf⟩ := HP1.out.okl
            obtain ⟨hsp, hke, hte⟩ := HIK.out
            obtain ⟨m0, m1, m2, m3, m4, m5⟩ := HCE.out W1 rfl
            have HOK5 := Lib.hid ok5
            have HBYS := Lib.hid hby
            have hkd : Below W1.heap.size W1 W1.drew := (Below.refl _ _).drew
            clear ok5 hby hwf
            by_cases hw0 : what = 0
            · as_aux_lemma =>
                subst hw0
                obtain ⟨s', lg', q, cL, cR, hlen⟩ := both_append N st lg rs r spare h1 h2 HOK5.out HR.out hr200 HOS.out hsp hca
                have uq : (q != q) = false := by simp
                have HPD := Lib.hid (HP1.out.keep hkd)
                have f1 := HPD.out.l (fun FL FD hS => cL xA xc FL FD lb db _ hS ((HX.out _ (HBW.out.trans (hkd.mono HP1.out.size))).recs))
                have HcR := Lib.hid cR
                have HLE := Lib.hid hlen
                clear cL cR hlen hkd
                go_upto_region 19 with fail
                go_region_held3 (fun W => W.cell? ⟨cb, 1, none⟩ = some (.int .i64 spare) ∧ W.cell? ⟨cb, 4, none⟩ = some (.slice xA r xc)) (first | exact ⟨m1, m4⟩ | exact ⟨(HCE.out V1 q1).2.1, (HCE.out V1 q1).2.2.2.2.1⟩ | exact ⟨(HCE.out V2 q2).2.1, (HCE.out V2 q2).2.2.2.2.1⟩) (first
                  | (go_at_call 10; (with_reducible refine f1.mono ?_); rintro e V1 ⟨rfl, p1, k1⟩; have q1 : V1.heap[cb]? = W1.heap[cb]? := k1 cb rfl; have f2 := p1.r (fun G hR => HcR.out xA xc G gb rb _ hR ((HX.out _ p1.below).recs)))
                  | (go_at_call 11; (with_reducible refine f2.mono ?_); rintro e V2 ⟨rfl, p2, k2⟩; have q2 : V2.heap[cb]? = W1.heap[cb]? := (k2 cb rfl).trans q1))
                have hby' := p2.okl.2.1
                clear f1 f2 p1 k1 k2
                go_wp2
                go_meet
                exact ⟨s', by have := HS1.out; have := HCL.out; have := HLE.out; omega, hby', .inl ⟨lb, gb, lg', rfl, rfl, p2⟩, q2⟩
            have kw0 : (what == 0) = false := by simpa using hw0
            by_cases hw1 : what = 1
            · as_aux_lemma =>
                subst hw1
                have f1 := HP1.out.l (fun FL FD hS => walOK.force FL FD lb db N st lg _ hS (by omega))
                clear hkd
                go_wp2_with fail
                refine f1.mono ?_
                clear f1
                rintro e V1 ⟨rfl, p1, k1⟩
                have q1 : V1.heap[cb]? = W1.heap[cb]? := k1 cb rfl
                have f2 := p1.r (fun G hR => refForce G gb rb N st lg (by omega) _ hR)
                clear p1 k1
                go_wp2_with fail
                refine f2.mono ?_
                clear f2
                rintro e V2 ⟨rfl, p2, k2⟩
                have q2 : V2.heap[cb]? = W1.heap[cb]? := (k2 cb rfl).trans q1
                clear k2
                go_wp2
                go_meet
                exact ⟨flushS st, by simp [flushS], bytes_flush HBYS.out, .inl ⟨lb, gb, _, rfl, rfl, p2⟩, q2⟩
            have kw1 : (what == 1) = false := by simpa using hw1
            by_cases hw2 : what = 2
            · as_aux_lemma =>
                subst hw2
                obtain ⟨s', lg', q, cL, cR, hlen⟩ := both_check N st lg rs r spare h1 h2 HOK5.out HR.out hr200 HOS.out hsp hca
                have uq : (q != q) = false := by simp
                have HPD := Lib.hid (HP1.out.keep hkd)
                have f1 := HPD.out.l (fun FL FD hS => cL xA xc FL FD lb db _ hS ((HX.out _ (HBW.out.trans (hkd.mono HP1.out.size))).recs))
                have HcR := Lib.hid cR
                have HLE := Lib.hid hlen
                clear cL cR hlen hkd
                go_upto_region 25 with fail
                go_region_held3 (fun W => W.cell? ⟨cb, 1, none⟩ = some (.int .i64 spare) ∧ W.cell? ⟨cb, 4, none⟩ = some (.slice xA r xc)) (first | exact ⟨m1, m4⟩ | exact ⟨(HCE.out V1 q1).2.1, (HCE.out V1 q1).2.2.2.2.1⟩ | exact ⟨(HCE.out V2 q2).2.1, (HCE.out V2 q2).2.2.2.2.1⟩) (first
                  | (go_at_call 14; (with_reducible refine f1.mono ?_); rintro e V1 ⟨rfl, p1, k1⟩; have q1 : V1.heap[cb]? = W1.heap[cb]? := k1 cb rfl; have f2 := p1.r (fun G hR => HcR.out xA xc G gb rb _ hR ((HX.out _ p1.below).recs)))
                  | (go_at_call 15; (with_reducible refine f2.mono ?_); rintro e V2 ⟨rfl, p2, k2⟩; have q2 : V2.heap[cb]? = W1.heap[cb]? := (k2 cb rfl).trans q1))
                have hby' := p2.okl.2.1
                clear f1 f2 p1 k1 k2
                go_wp2
                go_meet
                exact ⟨s', by have := HS1.out; have := HCL.out; have := HLE.out; omega, hby', .inl ⟨lb, gb, lg', rfl, rfl, p2⟩, q2⟩
            have kw2 : (what == 2) = false := by simpa using hw2
            by_cases hw3 : what = 3
            · as_aux_lemma =>
                subst hw3
                have f1 := both_d HP1.out.both (fun F hF => crash_any F db N st keep tear W1 hF (by omega))
                clear hkd
                go_wp2_with fail
                refine f1.mono ?_
                clear f1
                rintro e V1 ⟨rfl, p1, k1⟩
                have q1 : V1.heap[cb]? = W1.heap[cb]? := k1 cb rfl
                have n2 := (HCE.out V1 q1).2.2.1
                have n3 := (HCE.out V1 q1).2.2.2.1
                obtain ⟨s', hs'⟩ : ∃ s', crashS st keep tear = s' := ⟨_, rfl⟩
                rw [hs'] at p1
                have f2 := both_r p1 (fun G hG => rcrash_any G rb N st s' keep tear V1 hG (by omega) hs')
                have hby' : BytesD s' := by rw [← hs']; exact bytes_crash HBYS.out keep tear
                have hc0 : s'.cache.length = 0 := by rw [← hs']; rfl
                have HBY' := Lib.hid hby'
                have HC0 := Lib.hid hc0
                clear p1 k1 hs' hby' hc0
                go_wp2_with fail
                refine f2.mono ?_
                clear f2 n2 n3
                rintro e V2 ⟨rfl, p2, k2⟩
                have q2 : V2.heap[cb]? = W1.heap[cb]? := (k2 cb rfl).trans q1
                have HP2 := Lib.hid p2
                have hcb2 : cb < V2.heap.size := p2.xlt _ rfl
                clear k2 q1 p2
                cases ht : tells (nows s') with
                | none =>
                  have f3 := open_none HP2.out HBY'.out ht
                  have HT := Lib.hid ht
                  clear ht
                  go_wp2_with fail
                  refine f3.mono ?_
                  clear f3
                  rintro e V3 ⟨rfl, b3⟩
                  have f4 := ropen_both HA (HP2.out.below b3) HBY'.out h1 h2 (by have := HC0.out; omega) _ HT.out
                  unfold ROpenSays at f4
                  go_wp2_with fail
                  refine f4.mono ?_
                  clear f4
                  rintro e V4 ⟨rfl, b4⟩
                  have b5 := below_more b3 b4 (Nat.le_refl _)
                  have gn : GoodR none 0 [] V4 := ⟨fun h0 => absurd h0 (by simp), by simp, fun _ => rfl⟩
                  have f5 := sameR none none [] 0 0 0 rfl (by omega) V4 gn gn
                  go_wp2_with (first | (go_at_call 18; refine f5.mono ?_; rintro e V5 ⟨rfl, b6⟩) | fail)
                  go_meet
                  have b7 := below_more b5 b6 (Nat.le_refl _)
                  exact ⟨s', by have := HC0.out; omega, HBY'.out, .inr ⟨rfl, rfl, HP2.out.below b7⟩, (b7.block cb hcb2).trans q2⟩
                | some t =>
                  obtain ⟨lg', rr⟩ := t
                  obtain ⟨oklg, hrr⟩ := tells_log HP2.out.wf HBY'.out h1 ht
                  obtain ⟨nr, hnr⟩ : ∃ nr, rr.length = nr := ⟨_, rfl⟩
                  have f3 := open_both HP2.out HBY'.out lg' rr ht
                  have HT := Lib.hid ht
                  have HLG := Lib.hid oklg
                  have HNR := Lib.hid hnr
                  rw [hnr] at hrr
                  clear ht oklg hnr
                  go_wp2_with fail
                  refine f3.mono ?_
                  clear f3
                  rintro e V3 ⟨lb2, v3, FL3, rfl, l3, e3, o3, _, b3⟩
                  have f4 := ropen_both HA (HP2.out.below b3) HBY'.out h1 h2 (by have := HC0.out; omega) _ HT.out
                  unfold ROpenSays at f4
                  obtain ⟨A3, c3, rfl, g3⟩ := o3.good
                  have HG3 := Lib.hid g3
                  have HL3 := Lib.hid l3
                  have HE3 := Lib.hid e3
                  have HB3 := Lib.hid b3
                  rw [HNR.out]
                  clear l3 e3 o3 g3 b3
                  go_wp2_with fail
                  refine f4.mono ?_
                  clear f4
                  rintro e V4 ⟨gb2, v4, rfl, r4, hg4, o4, _, b4⟩
                  obtain ⟨A6, c6, rfl, g6⟩ := o4.good
                  have HPN := Lib.hid (HP2.out.pair HBY'.out HLG.out HB3.out HL3.out HE3.out b4 r4 hg4)
                  have hq4 := (below_more HB3.out b4 (Nat.le_refl _)).block cb hcb2
                  have f5 := sameR A3 A6 rr nr c3 c6 HNR.out (by omega) V4 (HG3.out.below b4) g6
                  rw [HNR.out]
                  clear r4 hg4 o4 b4 g6
                  go_wp2_with (first | (go_at_call 18; refine f5.mono ?_; rintro e V5 ⟨rfl, b6⟩) | fail)
                  go_meet
                  have hP5 := HPN.out.keep b6
                  exact ⟨s', by have := HC0.out; omega, HBY'.out, .inl ⟨lb2, gb2, lg', rfl, rfl, hP5⟩, (b6.block cb (HPN.out.xlt _ rfl)).trans (hq4.trans q2)⟩
            have kw3 : (what == 3) = false := by simpa using hw3
            by_cases hw4 : what = 4
            · as_aux_lemma =>
                subst hw4
                obtain ⟨s', hs'⟩ : ∃ s', writeT N st keep zs = s' := ⟨_, rfl⟩
                obtain ⟨q, hq⟩ : ∃ q, writeE N keep z = q := ⟨_, rfl⟩
                have hby' : BytesD s' := by rw [← hs']; exact bytes_write HBYS.out keep zs HOZ.out
                have hc0 : s'.cache.length ≤ st.cache.length + 1 := by rw [← hs']; exact writeT_len N st keep zs
                have f1 := HP1.out.d hby' (fun F hF => write_any F db N keep st s' xD z xd zs q W1 hF HZ.out (HX.out _ HBW.out).data (by omega) hq hs')
                have HS' := Lib.hid hs'
                have HQ := Lib.hid hq
                have HBY' := Lib.hid hby'
                have HC0 := Lib.hid hc0
                clear hkd hs' hq hby' hc0
                go_wp2_with fail
                refine f1.mono ?_
                clear f1
                rintro e V1 ⟨rfl, p1, k1⟩
                have q1 : V1.heap[cb]? = W1.heap[cb]? := k1 cb rfl
                have n2 := (HCE.out V1 q1).2.2.1
                have n5 := (HCE.out V1 q1).2.2.2.2.2
                have f2 := p1.rd (fun G hG => rwrite_any G rb N keep st s' xD z xd zs q V1 hG HZ.out (HX.out _ p1.below).data (by omega) HQ.out HS'.out)
                clear p1 k1
                go_wp2_with fail
                refine f2.mono ?_
                clear f2
                rintro e V2 ⟨rfl, p2, k2⟩
                have q2 : V2.heap[cb]? = W1.heap[cb]? := (k2 cb rfl).trans q1
                clear k2
                go_wp2
                go_meet
                exact ⟨s', by have := HS1.out; have := HCL.out; have := HC0.out; omega, HBY'.out, .inl ⟨lb, gb, lg, rfl, rfl, p2⟩, q2⟩
            have kw4 : (what == 4) = false := by simpa using hw4
            clear hkd
            go_wp2
            go_meet
            exact ⟨st, by have := HS1.out; have := HCL.out; omega, HBYS.out, .inl ⟨lb, gb, lg, rfl, rfl, HP1.out⟩, rfl⟩
          case rest =>
            obtain ⟨w9, rfl⟩ : ∃ w9, w9 = wc := ⟨_, rfl⟩
            obtain ⟨st', hcl', hby', hst', hkc⟩ := hcut
            have hbo := hst'.both
            have hbr := hbo.frame.1
            have sbr := hbo.frame.2
            have hcwc : cb < w9.heap.size := hbo.xlt _ rfl
            have x4 := (HCE.out w9 hkc).2.2.2.2.1
            have HST := Lib.hid hst'
            have HBO := Lib.hid hbo
            have HBR := Lib.hid hbr
            have HGR := Lib.hid (show ∀ W, Below w.heap.size w W → GoodR xA xc rs W from fun W hW => (HX.out W hW).recs)
            clear hbo hbr HCE hkc HP1 HBW hcs1 HX
            go_upto_region 39 with fail
            go_cut [220] (fun s wx => s = .bool false ∧ Below w9.heap.size w9 wx)
            case first => as_aux_lemma =>
              rcases hst' with ⟨lb, gb, lg, rfl, rfl, hp⟩ | ⟨rfl, rfl, hp⟩
              · obtain ⟨g1, g2, ggl⟩ := hp.rcells
                obtain ⟨q, hq⟩ : ∃ q, (N : Int) - lg.next + lg.sure = q := ⟨_, rfl⟩
                obtain ⟨nx, hnx⟩ : ∃ n, lg.next = n := ⟨_, rfl⟩
                obtain ⟨fi, hfi⟩ : ∃ n, lg.first = n := ⟨_, rfl⟩
                have f1 := fun W (hW : Below w9.heap.size w9 W) => (hp.keep hW).free q hq
                have f2 := fun W (hW : Below w9.heap.size w9 W) => (hp.keep hW).rfree h2 q hq
                have f3 := fun W (hW : Below w9.heap.size w9 W) => (hp.keep hW).next nx hnx
                have f4 := fun W (hW : Below w9.heap.size w9 W) => (hp.keep hW).first fi hfi
                rw [hnx] at g1
                rw [hfi] at g2
                have kd : Below w9.heap.size w9 w9.drew := (Below.refl _ _).drew
                have KS := Lib.hid (show ∀ W, Below w9.heap.size w9 W → (W.cell? ⟨gb, 1, none⟩ = some (.int .i64 (nx : Int)) ∧ W.cell? ⟨gb, 2, none⟩ = some (.int .i64 (fi : Int))) from fun W hW => ⟨(hW.cell (p := ⟨gb, 1, none⟩) ggl).trans g1, (hW.cell (p := ⟨gb, 2, none⟩) ggl).trans g2⟩)
                have e1 : (q != q) = false := by simp
                have e2 : ((nx : Int) != (nx : Int)) = false := by simp
                have e3 : ((fi : Int) != (fi : Int)) = false := by simp
                clear hp hq hnx hfi HST HBO HBR HGR hby' x4
                go_region_held3 (fun W => W.cell? ⟨gb, 1, none⟩ = some (.int .i64 (nx : Int)) ∧ W.cell? ⟨gb, 2, none⟩ = some (.int .i64 (fi : Int))) (first | exact KS.out _ kd | exact KS.out _ z1 | exact KS.out _ z2 | exact KS.out _ z3 | exact KS.out _ z4) (first
                  | (go_at_call 21; (with_reducible refine (f1 _ kd).mono ?_); rintro e V1 ⟨rfl, y1⟩; have z1 : Below w9.heap.size w9 V1 := below_more kd y1 (Nat.le_refl _))
                  | (go_at_call 22; (with_reducible refine (f2 _ z1).mono ?_); rintro e V2 ⟨rfl, y2⟩; have z2 : Below w9.heap.size w9 V2 := below_more z1 y2 (Nat.le_refl _))
                  | (go_at_call 23; (with_reducible refine (f3 _ z2).mono ?_); rintro e V3 ⟨rfl, y3⟩; have z3 : Below w9.heap.size w9 V3 := below_more z2 y3 (Nat.le_refl _))
                  | (go_at_call 24; (with_reducible refine (f4 _ z3).mono ?_); rintro e V4 ⟨rfl, y4⟩; have z4 : Below w9.heap.size w9 V4 := below_more z3 y4 (Nat.le_refl _)))
                go_wp2
                go_meet
                exact ⟨rfl, z4⟩
              · go_quiet (fail)
                go_wp2
                go_meet
                exact ⟨rfl, below_drewN (Below.refl _ _) _⟩
            case rest => as_aux_lemma =>
              obtain ⟨rfl, hbc⟩ := hcut
              obtain ⟨cA, cC, hrc, hrl⟩ := HBO.out.cells
              obtain ⟨fz, hfz⟩ : ∃ fz, st'.safe.flatten = fz := ⟨_, rfl⟩
              obtain ⟨cl, hclen⟩ : ∃ cl, st'.cache.length = cl := ⟨_, rfl⟩
              obtain ⟨q, hq⟩ : ∃ q, (if rs.all rightB then (nOf rs : Int) else -1) = q := ⟨_, rfl⟩
              have hfl := image_len HBO.out
              rw [hfz] at hfl
              rw [hclen] at hrc hcl'
              have HFL := Lib.hid hfl
              have f1 := fun W (hW : Below w9.heap.size w9 W) => image_both (HBO.out.below hW) h2 fz hfz
              have f2 := fun W (hW : Below w9.heap.size w9 W) => rimage_both (HBO.out.below hW) fz hfz
              have f3 := fun W (hW : Below w9.heap.size w9 W) => loose_both (HBO.out.below hW) cl hclen
              have f4 := fun W (hW : Below w9.heap.size w9 W) => sectors5 xA r xc rs W HR.out hr200 HOS.out (HGR.out W (HBR.out.trans (hW.mono sbr)))
              have f5 := fun W (hW : Below w9.heap.size w9 W) => refSectors xA r xc rs q W HR.out hr200 HOS.out (HGR.out W (HBR.out.trans (hW.mono sbr))) hq
              rw [hq] at f4
              have kd : Below w9.heap.size w9 wc.drew := hbc.drew
              have KS := Lib.hid (show ∀ W, Below w9.heap.size w9 W → (W.cell? ⟨rb, 1, none⟩ = some (.slice cA cl cC) ∧ W.cell? ⟨cb, 4, none⟩ = some (.slice xA r xc)) from fun W hW => ⟨(hW.cell (p := ⟨rb, 1, none⟩) hrl).trans hrc, (hW.cell (p := ⟨cb, 4, none⟩) hcwc).trans x4⟩)
              have e1 : ((cl : Int) != (cl : Int)) = false := by simp
              have e2 : (q != q) = false := by simp
              have HCLN := Lib.hid hclen
              clear hq hclen hfz hfl hrc x4 HBO HGR HR HOS
              go_upto_region 41 with fail
              go_region_held3 (fun W => W.cell? ⟨rb, 1, none⟩ = some (.slice cA cl cC) ∧ W.cell? ⟨cb, 4, none⟩ = some (.slice xA r xc)) (first | exact KS.out _ kd | exact KS.out _ z1 | exact KS.out _ z2 | exact KS.out _ z3 | exact KS.out _ z4 | exact KS.out _ z5) (first
                | (go_at_call 26; (with_reducible refine (f1 _ kd).mono ?_); rintro e V1 ⟨v1, rfl, o1, y1⟩; obtain ⟨A1, c1, rfl, g1⟩ := o1.good; have z1 : Below w9.heap.size w9 V1 := below_more kd y1 (Nat.le_refl _))
                | (go_at_call 27; (with_reducible refine (f2 _ z1).mono ?_); rintro e V2 ⟨v2, rfl, o2, y2⟩; obtain ⟨A2, c2, rfl, g2⟩ := o2.good; have z2 : Below w9.heap.size w9 V2 := below_more z1 y2 (Nat.le_refl _))
                | (go_at_call 25; refine (sameB A1 A2 fz fz c1 c2 _ _ true rfl rfl (by rw [HFL.out]; omega) (by rw [HFL.out]; omega) (by simp) V2 (g1.below y2) g2).mono ?_; rintro e V3 ⟨rfl, y3⟩; have z3 : Below w9.heap.size w9 V3 := below_more z2 y3 (Nat.le_refl _))
                | (go_at_call 28; (with_reducible refine (f3 _ z3).mono ?_); rintro e V ⟨rfl, rfl⟩)
                | (go_at_call 29; (with_reducible refine (f4 _ z3).mono ?_); rintro e V4 ⟨rfl, y4⟩; have z4 : Below w9.heap.size w9 V4 := below_more z3 y4 (Nat.le_refl _))
                | (go_at_call 30; (with_reducible refine (f5 _ z4).mono ?_); rintro e V5 ⟨rfl, y5⟩; have z5 : Below w9.heap.size w9 V5 := below_more z4 y5 (Nat.le_refl _)))
              go_wp2
              go_roundg (l - (j + 1))
              case measure => omega
              case rel => exact ⟨j + 1, st', by omega, rfl, by go_num, by rw [HCLN.out]; exact hcl', hby', (HST.out.keep z5).less⟩
        · have hlti : ¬ ((j : Int) < (l : Int)) := by omega
          have hltd : decide (j < l) = false := by simpa using hlt
          obtain rfl : j = l := by omega
          have hbr := Lib.hid hp.below
          clear hp
          go_wp2
          go_ret
          exact ⟨rfl, hbr.out⟩
      · have hbr := Lib.hid hp.frame.1
        clear hp
        by_cases hlt : j < l
        · have hlti : (j : Int) < (l : Int) := by omega
          have hltd : decide (j < l) = true := by simpa using hlt
          go_wp2
          go_ret
          exact ⟨rfl, hbr.out⟩
        · have hlti : ¬ ((j : Int) < (l : Int)) := by omega
          have hltd : decide (j < l) = false := by simpa using hlt
          obtain rfl : j = l := by omega
          go_wp2
          go_ret
          exact ⟨rfl, hbr.out⟩
end Go.Proofs.YtdmkkfpbgpijjaaGreat
