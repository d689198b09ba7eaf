/- DiskLasts: the walk. -/
import Derived.Test.YtckkgcogkcljeaaDo
namespace Go.Proofs.Ytckkgcogkcljeaa
open Go.RowKit Go.Deep Go.Maps

theorem lastIn_none (i : Nat) (ws : List (Nat × List Int)) (h : ∀ p ∈ ws, p.1 ≠ i) : lastIn i ws = none := by
  induction ws with
  | nil => rfl
  | cons p ws ih =>
    rw [lastIn, ih (fun q hq => h q (List.mem_cons_of_mem _ hq))]
    simp [h p List.mem_cons_self]
theorem carry_other (s : List (List Int)) (ws : List (Nat × List Int)) (i : Nat) (hi : i < s.length) (h : ∀ p ∈ ws, p.1 ≠ i) : secAt (carry s ws) i = secAt s i := by
  rw [carry_at ws i s hi, lastIn_none i ws h]; rfl
theorem crash_other (s : List (List Int)) (ws : List (Nat × List Int)) (keep tear : Int) (i : Nat) (hi : i < s.length) (h : ∀ p ∈ ws, p.1 ≠ i) : nowAt (crashS ⟨s, ws⟩ keep tear) i = secAt s i := by
  show secAt (crashL s ws keep tear) i = _
  unfold crashL
  split
  · exact carry_other s ws i hi h
  · rename_i p hp
    unfold tornS
    rw [secAt_set _ _ _ _ (by rw [length_carry]; exact hi), if_neg (h p (List.mem_of_getElem? hp))]
    exact carry_other s _ i hi (fun q hq => h q (List.mem_of_mem_take hq))
theorem crash_empty (s : List (List Int)) (keep tear : Int) : crashS ⟨s, []⟩ keep tear = ⟨s, []⟩ := rfl
theorem info_int : (Try.prog.info? 3).map (fun i => (i.zero, i.size, i.bytes)) = some (some (.int .i64 0), 1, 8) := by kernel_rfl
/-- n numbers at b. -/
def NumsAt (w : World) (b n : Nat) (f : Nat → Int) : Prop := b < w.heap.size ∧ ∀ i, i < n → w.cell? ⟨b, i, none⟩ = some (.int .i64 (f i)) ∧ w.frozen? ⟨b, i, none⟩ = false
theorem NumsAt.kept {w w' : World} {b n : Nat} {f : Nat → Int} (h : NumsAt w b n f) (hs : w.heap.size ≤ w'.heap.size) (hb : w'.heap[b]? = w.heap[b]?) : NumsAt w' b n f :=
  ⟨Nat.lt_of_lt_of_le h.1 hs, fun i hi => ⟨(World.cell?_of_block (a := ⟨b, i, none⟩) hb).trans (h.2 i hi).1, (World.frozen?_of_block (a := ⟨b, i, none⟩) hb).trans (h.2 i hi).2⟩⟩
theorem NumsAt.set {w : World} {b n : Nat} {f : Nat → Int} (h : NumsAt w b n f) {i : Nat} (hi : i < n) (z : Int) : NumsAt (w.setCell ⟨b, i, none⟩ (.int .i64 z)) b n (fun k => if k = i then z else f k) := by
  refine ⟨by simpa using h.1, fun k hk => ⟨?_, (World.frozen?_setCell _ _ _ _).trans (h.2 k hk).2⟩⟩
  by_cases e : k = i
  · subst e; simp only [if_true]; exact World.cell?_setCell_same _ _ _ (h.2 k hk).1
  · simp only [e, if_false]; rw [World.cell?_setCell_other _ _ _ _ (fun x => e (by injection x with _ x _; exact x.symm))]; exact (h.2 k hk).1
theorem made_num (n j : Nat) (hj : j < n) : (madeCells #[Value.int .i64 0] n)[j]? = some (.int .i64 0) := by simp [madeCells, Nat.mod_one, hj]
theorem nums_made (w : World) (n : Nat) : NumsAt (w.alloc (.cells (madeCells #[Value.int .i64 0] n) 3)) w.heap.size n (fun _ => 0) :=
  ⟨by simp, fun i hi => ⟨by rw [cell_of_row _ _ _ _ _ _ (heap_alloc_new w _)]; exact made_num n i hi, by have := (there_of_cells (heap_alloc_new w (.cells (madeCells #[Value.int .i64 0] n) 3)) n (Nat.le_of_eq (size_madeCells _ _).symm) i hi).2; rwa [Nat.zero_add] at this⟩⟩
theorem good_row_part {B : Nat} {w : World} {sb cap k m : Nat} {zs : List Int} (h : Owns B w (.slice (some ⟨sb, 0, none⟩) zs.length cap) zs) (hk : k + m ≤ zs.length) : Good (some ⟨sb, k, none⟩) (cap - k) ((zs.drop k).take m) w := by
  obtain ⟨A, c, e, g⟩ := h.good
  simp only [Value.slice.injEq, true_and] at e
  obtain ⟨rfl, rfl⟩ := e
  have := (g.drop k (by omega)).take m
  rwa [Nat.zero_add] at this
set_option maxRecDepth 100000 in
set_option maxHeartbeats 4000000 in
theorem lasts_body (n : Nat) (A A2 : Option Addr) (cs ds : List CallD) (l c l2 c2 : Nat) (keep tear : Int) (w : World) (h1 : 1 ≤ n) (h2 : n ≤ 40) (h : CallsAt w.heap.size w A cs) (hl : cs.length = l) (hm : l ≤ maxLen) (hgr : greatB cs = false) (h' : CallsAt w.heap.size w A2 ds) (hl' : ds.length = l2) (hm' : l2 ≤ maxLen) (hgr' : greatB ds = false) :
    Calls Try.prog 4 #[.int .i64 n, .slice A l c, .slice A2 l2 c2, .int .i64 keep, .int .i64 tear] w fun e w' => e = .returned (.bool true) ∧ Below w.heap.size w w' := by
  have HL := Lib.hid hl
  have HG := Lib.hid hgr
  have HL' := Lib.hid hl'
  have HG' := Lib.hid hgr'
  have i1 : (1 : Int) ≤ (n : Int) := by omega
  have i2 : (n : Int) ≤ 40 := by omega
  have d1 : decide ((n : Int) < 1) = false := by simp; omega
  have d2 : decide ((40 : Int) < (n : Int)) = false := by simp; omega
  have hl80 : l2 ≤ 80 := by have := (great_no hgr').1; omega
  have hmk : ∀ w : World, (Instr.makeSlice 49 (.int .i64 (n : Int)) (.int .i64 (n : Int))).run Try.prog w = .ok (.slice (some ⟨w.heap.size, 0, none⟩) n n) (w.alloc (.cells (madeCells #[Value.int .i64 0] n) 3)) := by
    obtain ⟨i0, hi, hz0, hz1, hz2⟩ := info_parts info_int
    intro w
    have := run_make (P := Try.prog) w 49 3 i0 _ Try.underlying49 hi hz0 .i64 .i64 n n (by omega) (by omega) (by rw [hz2]; omega) (by omega)
    rw [hz1] at this
    simpa [Value.cells] using this
  clear hl hgr hl' hgr'
  go_enter Try.func4, Try.ntmps4
  go_wp2_with fail
  refine (alive_any w).mono ?_
  rintro e w1 ⟨rfl, b1⟩
  have hc1 := h.below b1
  have hc1' := h'.below b1
  have s1 := b1.size
  go_wp2_with fail
  refine (great_any A cs l c w.heap.size false w1 hc1 HL.out hm HG.out).mono ?_
  rintro e w1' ⟨rfl, rfl⟩
  go_wp2_with fail
  refine (great_any A2 ds l2 c2 w.heap.size false w1 hc1' HL'.out hm' HG'.out).mono ?_
  rintro e w1' ⟨rfl, rfl⟩
  go_wp2_with fail
  refine (begin_any n A cs l c _ w1 h1 (by omega) (calls_more hc1 s1) HL.out HG.out rfl).mono ?_
  rintro e w2 ⟨F, db, rfl, hd2, hF, b2⟩
  have hlen := runS_len n cs
  have hcl := (great_no HG.out).1
  generalize runS n cs = st at *
  have HD := Lib.hid hd2
  have bw2 : Below w.heap.size w w2 := b1.trans (b2.mono s1)
  have s2 := b2.size
  clear hd2 hc1 hc1' b2 b1
  go_wp2_with fail
  refine (flush_any F db n st w2 HD.out (by omega)).mono ?_
  rintro e w3 ⟨rfl, hd3, hm3⟩
  have bw3 : Below w.heap.size w w3 := bw2.trans (hm3.below (by omega) (fun k hk => by have := hF k hk; omega))
  have hF3 : ∀ k, grow F w2 w3 k → w.heap.size ≤ k := fun k hk => hk.elim (fun e => by have := hF k e; omega) (fun e => by omega)
  generalize grow F w2 w3 = F3 at *
  have HD3 := Lib.hid hd3
  have s3 := bw3.size
  have hwf := hd3.wf
  have hlt3 := hd3.lt
  clear hd3 hm3 HD bw2 hF
  change Wf n ⟨nows st, []⟩ at hwf
  have hD3 : DiskAt w3 F3 db n ⟨nows st, []⟩ := HD3.out
  clear HD3
  generalize nows st = S at *
  have HD3 := Lib.hid hD3
  have hfl : S.flatten.length = 32 * n := flat_len S hwf.len hwf.secs
  have HFL := Lib.hid hfl
  clear hD3 hfl
  go_wp2_with fail
  refine (image_at F3 db n ⟨S, []⟩ S.flatten w3 HD3.out (by omega) rfl).mono ?_
  rintro e w4 ⟨v4, rfl, o4, b4⟩
  obtain ⟨sb, cap, e4, hsb1, hsb2⟩ := World.ownsRow.form o4 (by rw [HFL.out]; omega)
  subst e4
  rw [HFL.out]
  have HO4 := Lib.hid o4
  have HD4 := Lib.hid (HD3.out.below b4)
  have bw4 : Below w.heap.size w w4 := bw3.trans (b4.mono s3)
  have s4 := bw4.size
  have hsF : ¬ F3 sb := fun e => by have := hlt3 sb e; omega
  have s43 := b4.size
  clear o4 b4 HD3 bw3
  have hnm := nums_made w4 n
  have hD5 : DiskAt (w4.alloc (.cells (madeCells #[Value.int .i64 0] n) 3)) F3 db n ⟨S, []⟩ := HD4.out.below ((Below.refl _ _).alloc (Nat.le_refl _) _)
  have bw5 : Below w.heap.size w (w4.alloc (.cells (madeCells #[Value.int .i64 0] n) 3)) := bw4.alloc s4 _
  have hsame : (w4.alloc (.cells (madeCells #[Value.int .i64 0] n) 3)).heap[sb]? = w4.heap[sb]? := Below.heap_alloc _ _ _ hsb2
  have hsz5 : (w4.alloc (.cells (madeCells #[Value.int .i64 0] n) 3)).heap.size = w4.heap.size + 1 := by simp
  go_wp2
  generalize (w4.alloc (.cells (madeCells #[Value.int .i64 0] n) 3)) = w5 at *
  have HNM := Lib.hid hnm
  have HD5 := Lib.hid hD5
  have HSM := Lib.hid hsame
  have HB5 := Lib.hid bw5
  have HS5 := Lib.hid hsz5
  have hwF : ¬ F3 w4.heap.size := fun e => by have := hlt3 _ e; omega
  clear hnm hD5 hsame bw5 hsz5
  go_loopw [14] (fun k wr => ∃ (j : Nat) (ws : List (Nat × List Int)) (F' : Nat → Prop) (f : Nat → Int), j ≤ l2 ∧ k = .int .i64 j ∧ DiskAt wr F' db n ⟨S, ws⟩ ∧ ws.length ≤ j ∧ (∀ p ∈ ws, f p.1 = 1) ∧ NumsAt wr w4.heap.size n f ∧ ¬ F' w4.heap.size ∧ ¬ F' sb ∧ wr.heap[sb]? = w4.heap[sb]? ∧ (∀ k, F' k → w.heap.size ≤ k) ∧ Below w.heap.size w wr ∧ w5.heap.size ≤ wr.heap.size) (fun k _ => l2 - (intOf k).toNat)
  case atStart => exact ⟨0, [], F3, _, by omega, rfl, HD5.out, by simp, (fun p hp => by cases hp), HNM.out, hwF, hsF, HSM.out, hF3, HB5.out, Nat.le_refl _⟩
  case round =>
    obtain ⟨j, ws, F', f, hj, rfl, hd, hwl, hwf1, hnm, hF1, hF2, hsm, hFl, hb, hsz⟩ := hrel
    by_cases hlt : j < l2
    · have hjc : j < ds.length := by rw [HL'.out]; exact hlt
      have hx : ds[j]? = some ds[j] := List.getElem?_eq_getElem hjc
      have hlx := (great_no HG'.out).2 _ (List.mem_of_getElem? hx)
      obtain ⟨b, off, rfl, hB, hall⟩ := (h'.below hb) (by omega)
      obtain ⟨e0, e1, e2, e3, e4⟩ := hall j _ hx
      clear hall hx
      generalize ds[j] = x at *
      obtain ⟨what, at_, tr, xA, xc, zs⟩ := x
      simp only at hlx e0 e1 e2 e3 e4
      have hlt' : (j : Int) < (l2 : Int) := by omega
      have hszb := hb.size
      have HDx := Lib.hid hd
      have HWF := Lib.hid hwf1
      have HNMx := Lib.hid hnm
      have HSMx := Lib.hid hsm
      have HBx := Lib.hid hb
      have HFx := Lib.hid hFl
      have E4 := Lib.hid e4
      clear hd hwf1 hnm hsm hb hFl e4
      have hs5 := HS5.out
      by_cases hgd : what = 0 ∧ 0 ≤ at_ ∧ at_ < n
      · obtain ⟨rfl, ha0, han⟩ := hgd
        obtain ⟨i, rfl⟩ := Int.eq_ofNat_of_zero_le ha0
        have hin : i < n := by omega
        have k1 : decide ((0 : Int) ≤ (i : Int)) = true := by simp
        have k2 : decide ((i : Int) < (n : Int)) = true := by simpa using hin
        have k3 : decide (i < n) = true := by simpa using hin
        have k4 : (i : Int) < (n : Int) := by omega
        have hnl := HNMx.out.1
        have hcw : ∀ o : Obj, (wr.alloc o).cell? ⟨w4.heap.size, i, none⟩ = some (.int .i64 (f i)) := fun o => (World.cell?_alloc_lt wr o ⟨w4.heap.size, i, none⟩ hnl).trans (HNMx.out.2 i hin).1
        have hfw : ∀ o : Obj, (wr.alloc o).frozen? ⟨w4.heap.size, i, none⟩ = false := fun o => (World.frozen?_alloc_past _ w4.heap.size i hnl).trans (HNMx.out.2 i hin).2
        have hne1 : wr.heap.size ≠ w4.heap.size := by omega
        have hne2 : w4.heap.size ≠ wr.heap.size := by omega
        go_wp2_with fail
        have m1 : Moves (· = w4.heap.size) wr ((wr.setCell ⟨w4.heap.size, i, none⟩ (.int .i64 1)).alloc (.cells #[.int .i64 0, .int .i64 (i : Int), .int .i64 tr, .slice xA zs.length xc] 34)) := (moves_setCell (· = w4.heap.size) wr ⟨w4.heap.size, i, none⟩ (.int .i64 1) rfl).trans (moves_alloc (· = w4.heap.size) _ _) (fun _ e => .inl e)
        have hnum : NumsAt ((wr.setCell ⟨w4.heap.size, i, none⟩ (.int .i64 1)).alloc (.cells #[.int .i64 0, .int .i64 (i : Int), .int .i64 tr, .slice xA zs.length xc] 34)) w4.heap.size n (fun k => if k = i then 1 else f k) := (HNMx.out.set hin 1).kept (by simp) (Below.heap_alloc _ _ _ (by simpa using hnl))
        have hzW : ((wr.setCell ⟨w4.heap.size, i, none⟩ (.int .i64 1)).alloc (.cells #[.int .i64 0, .int .i64 (i : Int), .int .i64 tr, .slice xA zs.length xc] 34)).heap.size = wr.heap.size + 1 := by simp
        generalize ((wr.setCell ⟨w4.heap.size, i, none⟩ (.int .i64 1)).alloc (.cells #[.int .i64 0, .int .i64 (i : Int), .int .i64 tr, .slice xA zs.length xc] 34)) = W1 at *
        have hbW : Below w.heap.size wr W1 := m1.below hszb (fun k e => by subst e; exact s4)
        have HBW := Lib.hid (HBx.out.trans hbW)
        have HGW := Lib.hid ((E4.out.below hbW).good (by omega))
        have HDW := Lib.hid (HDx.out.moves m1 (fun k hk e => by subst e; exact hF1 hk))
        have HSW := Lib.hid ((m1.block sb (by omega) (by show sb ≠ w4.heap.size; omega)).trans HSMx.out)
        have HNW := Lib.hid hnum
        have hgi : goodAt n i = true := by unfold goodAt; simp; omega
        have hwT : writeT n ⟨S, ws⟩ i zs = ⟨S, if zs.length = 32 then ws ++ [(i, zs)] else ws⟩ := by
          unfold writeT writeS
          rw [hgi]
          simp only [if_true, Int.toNat_natCast]
          split <;> rfl
        have HWT := Lib.hid hwT
        clear m1 hnum hbW hgi hwT hcw hfw
        refine (write_any F' db n i ⟨S, ws⟩ _ xA zs.length xc zs _ W1 HDW.out rfl HGW.out (by show ws.length ≤ 999; omega) rfl HWT.out).mono ?_
        rintro e w6 ⟨rfl, hd6, hm6⟩
        have HD6 := Lib.hid hd6
        have HM6 := Lib.hid hm6
        have s6 := hm6.size
        clear hd6 hm6
        go_wp2
        go_roundw
        case rel =>
          have hm6 := HM6.out
          refine ⟨j + 1, _, grow F' W1 w6, _, by omega, by go_num, HD6.out, ?_, ?_, HNW.out.kept s6 (hm6.block _ (by omega) hF1), ?_, ?_, (hm6.block sb (by omega) hF2).trans HSW.out, ?_, HBW.out.trans (hm6.below HBW.out.size HFx.out), by omega⟩
          · split
            · simp; omega
            · omega
          · intro p hp
            split at hp
            · rcases List.mem_append.1 hp with hp | hp
              · simp only [HWF.out p hp]; split <;> rfl
              · simp at hp; subst hp; simp
            · simp only [HWF.out p hp]; split <;> rfl
          · rintro (e | e)
            · exact hF1 e
            · omega
          · rintro (e | e)
            · exact hF2 e
            · omega
          · rintro k (e | e)
            · exact HFx.out k e
            · omega
        case measure => simp [intOf]; omega
      · have hskip : ∀ o : Obj, ∃ (q : Nat) (ws : List (Nat × List Int)) (F' : Nat → Prop) (f : Nat → Int), q ≤ l2 ∧ Value.int .i64 ((j : Int) + 1) = .int .i64 q ∧ DiskAt (wr.alloc o) F' db n ⟨S, ws⟩ ∧ ws.length ≤ q ∧ (∀ p ∈ ws, f p.1 = 1) ∧ NumsAt (wr.alloc o) w4.heap.size n f ∧ ¬ F' w4.heap.size ∧ ¬ F' sb ∧ (wr.alloc o).heap[sb]? = w4.heap[sb]? ∧ (∀ k, F' k → w.heap.size ≤ k) ∧ Below w.heap.size w (wr.alloc o) ∧ w5.heap.size ≤ (wr.alloc o).heap.size := fun o => by
          have hal : Below wr.heap.size wr (wr.alloc o) := (Below.refl _ _).alloc (Nat.le_refl _) o
          exact ⟨j + 1, ws, F', f, by omega, by go_num, HDx.out.below hal, by omega, HWF.out, HNMx.out.kept hal.size (hal.block _ HNMx.out.1), hF1, hF2, (hal.block sb (by omega)).trans HSMx.out, HFx.out, HBx.out.trans (hal.mono hszb), by have := hal.size; omega⟩
        have HSK := Lib.hid hskip
        clear hskip
        by_cases hw0 : what = 0
        · subst hw0
          by_cases ha0 : 0 ≤ at_
          · have k1 : decide ((0 : Int) ≤ at_) = true := by simpa using ha0
            have k2 : decide (at_ < (n : Int)) = false := by simp; omega
            go_wp2
            go_roundw
            case rel => exact HSK.out _
            case measure => simp [intOf]; omega
          · have k1 : decide ((0 : Int) ≤ at_) = false := by simpa using ha0
            go_wp2
            go_roundw
            case rel => exact HSK.out _
            case measure => simp [intOf]; omega
        · have k1 : (what == 0) = false := by simpa using hw0
          go_wp2
          go_roundw
          case rel => exact HSK.out _
          case measure => simp [intOf]; omega
    · obtain rfl : j = l2 := by omega
      have HDx := Lib.hid hd
      have HNMx := Lib.hid hnm
      have HBx := Lib.hid hb
      have hszb := hb.size
      have hnow : ∀ i, i < n → f i = 0 → nowAt (crashS ⟨S, ws⟩ keep tear) i = secAt S i := fun i hi hf => crash_other S ws keep tear i (by have := hwf.len; simp only at this; omega) (fun p hp e => by have := hwf1 p hp; rw [e, hf] at this; omega)
      have hcr : ∃ S6, crashS ⟨S, ws⟩ keep tear = ⟨S6, []⟩ := ⟨_, rfl⟩
      obtain ⟨S6, hS6⟩ := hcr
      have HS6 := Lib.hid hS6
      have HSMx := Lib.hid hsm
      have HFx := Lib.hid hFl
      rw [hS6] at hnow
      have HNW := Lib.hid hnow
      clear hd hnm hb hnow hS6 hsm hFl hwf1
      have hs5 := HS5.out
      go_wp2_with fail
      refine (crash_any F' db n ⟨S, ws⟩ keep tear wr HDx.out (by show ws.length ≤ 1000; omega)).mono ?_
      rintro e w6 ⟨rfl, hd6, hm6⟩
      rw [HS6.out] at hd6
      have s6 := hm6.size
      have hnl := HNMx.out.1
      have HNM6 := Lib.hid (HNMx.out.kept s6 (hm6.block _ hnl hF1))
      have HSM6 := Lib.hid ((hm6.block sb (by omega) hF2).trans HSMx.out)
      have HB6 := Lib.hid (HBx.out.trans (hm6.below hszb HFx.out))
      have hFl6 : ∀ k, grow F' wr w6 k → w.heap.size ≤ k := fun k hk => hk.elim (HFx.out k) (fun e => by omega)
      have HF6 := Lib.hid hFl6
      have HD6 := Lib.hid hd6
      have hwf6 := hd6.wf
      have hlt6 := hd6.lt
      have HLT6 := Lib.hid hlt6
      clear hd6 hm6 hFl6 hlt6 HDx HNMx HSMx HFx HBx
      generalize grow F' wr w6 = F6 at *
      have sw6 := HB6.out.size
      have hcap : S.flatten.length ≤ cap := by
        obtain ⟨A0, c0, e0, g0⟩ := Owns.good HO4.out
        simp only [Value.slice.injEq, true_and] at e0
        obtain ⟨_, rfl⟩ := e0
        exact g0.2.1
      rw [HFL.out] at hcap
      have HO6 := Lib.hid (row_kept HO4.out (w' := w6) (fun k hk => by
        have e : sb = k := by simpa [Value.ownBlock] using hk
        subst e
        exact HSM6.out))
      go_wp2
      go_loopw [16] (fun k wq => ∃ q : Nat, q ≤ n ∧ k = .int .i64 q ∧ Below w6.heap.size w6 wq) (fun k _ => n - (intOf k).toNat)
      case atStart => exact ⟨0, by omega, rfl, Below.refl _ _⟩
      case round =>
        obtain ⟨q, hq, rfl, hbq⟩ := hrel
        have HDQ := Lib.hid (HD6.out.below hbq)
        have sq := hbq.size
        have HBQ := Lib.hid hbq
        clear hbq
        by_cases hqn : q < n
        · have hqn' : (q : Int) < (n : Int) := by omega
          go_wp2_with fail
          refine (read_at F6 db n q ⟨S6, []⟩ _ wr HDQ.out hqn rfl).mono ?_
          rintro e w7 ⟨b7, rfl, hr7, hl7, hg7, hb7⟩
          have HB7 := Lib.hid (HBQ.out.trans (hb7.mono sq))
          have HR7 := Lib.hid hr7
          have s7 := hb7.size
          have hcw : w7.cell? ⟨w4.heap.size, q, none⟩ = some (.int .i64 (f q)) := (HB7.out.cell (p := ⟨w4.heap.size, q, none⟩) HNM6.out.1).trans (HNM6.out.2 q hqn).1
          have HQ := Lib.hid (HNW.out q hqn)
          clear hr7 hb7
          generalize f q = z at *
          by_cases hz : z = 0
          · have ez : (z == 0) = true := by simpa using hz
            have hnq := HQ.out hz
            have HNQ := Lib.hid hnq
            have hlq : (secAt S q).length = 32 := secAt_len hwf.len hwf.secs hqn
            have HLQ := Lib.hid hlq
            have hO7 : Owns w3.heap.size w7 (.slice (some ⟨sb, 0, none⟩) S.flatten.length cap) S.flatten := World.ownsRow.kept HO6.out (row := none) ⟨HB7.out.os, HB7.out.tape, HB7.out.output, HB7.out.size, fun k hk _ => HB7.out.block k hk⟩ (.inr (by simp [Value.ownBlock]))
            have hpart := good_row_part hO7 (k := 32 * q) (m := 32) (by rw [HFL.out]; omega)
            rw [flat_sec S hwf.len hwf.secs q hqn] at hpart
            have HPT := Lib.hid hpart
            have t1 : (32 : Int) * (q : Int) + 32 ≤ (cap : Int) := by omega
            have t2 : ¬ cap = 32 * q := by omega
            have t3 : (0 : Int) ≤ 32 * (q : Int) := by omega
            clear hnq hlq hO7 hpart hz
            go_wp2_with fail
            have hgb : Good (some ⟨b7, 0, none⟩) 32 (secAt S q) w7 := by
              have := HR7.out
              rw [HNQ.out] at this
              exact good_of_range this hg7 32 (Nat.le_of_eq HLQ.out)
            refine (sameB _ _ (secAt S q) (secAt S q) 32 (cap - 32 * q) 32 32 true HLQ.out HLQ.out (by omega) (by omega) (by simp) w7 hgb HPT.out).mono ?_
            clear hgb
            rintro e w8 ⟨rfl, hb8⟩
            have HB8 := Lib.hid (HB7.out.trans (hb8.mono HB7.out.size))
            clear hb8
            go_wp2
            go_roundw
            case rel => exact ⟨q + 1, by omega, by go_num, HB8.out⟩
            case measure => simp [intOf]; omega
          · have ez : (z == 0) = false := by simpa using hz
            clear hz
            go_wp2
            go_roundw
            case rel => exact ⟨q + 1, by omega, by go_num, HB7.out⟩
            case measure => simp [intOf]; omega
        · obtain rfl : q = n := by omega
          have hf6 : S6.flatten.length = 32 * q := flat_len S6 hwf6.len hwf6.secs
          have HF66 := Lib.hid hf6
          have HBw := Lib.hid (HB6.out.trans (HBQ.out.mono sw6))
          clear hf6
          go_wp2_with fail
          refine (image_at F6 db q ⟨S6, []⟩ S6.flatten wr HDQ.out (by omega) rfl).mono ?_
          rintro e w7 ⟨v7, rfl, o7, b7⟩
          have HO7 := Lib.hid o7
          have HD7 := Lib.hid (HDQ.out.below b7)
          have HB7 := Lib.hid (HBw.out.trans (b7.mono HBw.out.size))
          have s7 := b7.size
          have sw := HB7.out.size
          clear o7 b7
          go_wp2_with fail
          refine (crash_any F6 db q ⟨S6, []⟩ tear keep w7 HD7.out (by simp)).mono ?_
          rintro e w8 ⟨rfl, hd8, hm8⟩
          rw [crash_empty] at hd8
          have HO8 := Lib.hid (owns_moves HO7.out hm8 (fun k hk => by have := HLT6.out k hk; omega))
          have HD8 := Lib.hid hd8
          have HB8 := Lib.hid (HB7.out.trans (hm8.below sw HF6.out))
          clear hd8 hm8
          go_wp2_with fail
          refine (image_at _ db q ⟨S6, []⟩ S6.flatten w8 HD8.out (by omega) rfl).mono ?_
          rintro e w9 ⟨v9, rfl, o9, b9⟩
          obtain ⟨A9, c9, rfl, g9⟩ := o9.good
          obtain ⟨A10, c10, e10, g10⟩ := (HO8.out.below b9).good
          subst e10
          have G9 := Lib.hid g9
          have G10 := Lib.hid g10
          have HD9 := Lib.hid (HD8.out.below b9)
          have HB9 := Lib.hid (HB8.out.trans (b9.mono HB8.out.size))
          clear o9 b9 g9 g10
          rw [HF66.out]
          go_wp2_with fail
          refine (sameB A9 A10 S6.flatten S6.flatten c9 c10 (32 * q) (32 * q) true HF66.out HF66.out (by omega) (by omega) (by simp) w9 G9.out G10.out).mono ?_
          rintro e w10 ⟨rfl, b10⟩
          have HD10 := Lib.hid (HD9.out.below b10)
          have HB10 := Lib.hid (HB9.out.trans (b10.mono HB9.out.size))
          clear b10
          go_wp2_with fail
          refine (loose_at _ db q 0 ⟨S6, []⟩ w10 HD10.out rfl).mono ?_
          rintro e w11 ⟨rfl, rfl⟩
          go_wp2
          go_ret
          exact ⟨rfl, HB10.out⟩
set_option maxRecDepth 100000 in
set_option maxHeartbeats 1000000 in
theorem lasts_any (n : Int) (A A2 : Option Addr) (cs ds : List CallD) (l c l2 c2 : Nat) (keep tear : Int) (w : World) (h : CallsAt w.heap.size w A cs) (hl : cs.length = l) (hm : l ≤ maxLen) (h' : CallsAt w.heap.size w A2 ds) (hl' : ds.length = l2) (hm' : l2 ≤ maxLen) :
    Calls Try.prog 4 #[.int .i64 n, .slice A l c, .slice A2 l2 c2, .int .i64 keep, .int .i64 tear] w fun e w' => e = .returned (.bool true) ∧ Below w.heap.size w w' := by
  have HL := Lib.hid hl
  have HL' := Lib.hid hl'
  clear hl hl'
  cases hgr : greatB cs with
  | true =>
    have HG := Lib.hid hgr
    clear hgr
    go_enter Try.func4, Try.ntmps4
    go_wp2_with fail
    refine (alive_any w).mono ?_
    rintro e w1 ⟨rfl, b1⟩
    go_wp2_with fail
    refine (great_any A cs l c w.heap.size true w1 (h.below b1) HL.out hm HG.out).mono ?_
    rintro e w1' ⟨rfl, rfl⟩
    go_wp2
    go_ret
    exact ⟨rfl, b1⟩
  | false =>
    have HG := Lib.hid hgr
    clear hgr
    cases hgr' : greatB ds with
    | true =>
      have HG' := Lib.hid hgr'
      clear hgr'
      go_enter Try.func4, Try.ntmps4
      go_wp2_with fail
      refine (alive_any w).mono ?_
      rintro e w1 ⟨rfl, b1⟩
      go_wp2_with fail
      refine (great_any A cs l c w.heap.size false w1 (h.below b1) HL.out hm HG.out).mono ?_
      rintro e w1' ⟨rfl, rfl⟩
      go_wp2_with fail
      refine (great_any A2 ds l2 c2 w.heap.size true w1 (h'.below b1) HL'.out hm' HG'.out).mono ?_
      rintro e w1' ⟨rfl, rfl⟩
      go_wp2
      go_ret
      exact ⟨rfl, b1⟩
    | false =>
      have HG' := Lib.hid hgr'
      clear hgr'
      by_cases h1 : n < 1
      · have d1 : decide (n < 1) = true := by simpa using h1
        go_enter Try.func4, Try.ntmps4
        go_wp2_with fail
        refine (alive_any w).mono ?_
        rintro e w1 ⟨rfl, b1⟩
        go_wp2_with fail
        refine (great_any A cs l c w.heap.size false w1 (h.below b1) HL.out hm HG.out).mono ?_
        rintro e w1' ⟨rfl, rfl⟩
        go_wp2_with fail
        refine (great_any A2 ds l2 c2 w.heap.size false w1 (h'.below b1) HL'.out hm' HG'.out).mono ?_
        rintro e w1' ⟨rfl, rfl⟩
        go_wp2
        go_ret
        exact ⟨rfl, b1⟩
      by_cases h2 : 40 < n
      · have d2 : decide (40 < n) = true := by simpa using h2
        have d1 : decide (n < 1) = false := by simp; omega
        go_enter Try.func4, Try.ntmps4
        go_wp2_with fail
        refine (alive_any w).mono ?_
        rintro e w1 ⟨rfl, b1⟩
        go_wp2_with fail
        refine (great_any A cs l c w.heap.size false w1 (h.below b1) HL.out hm HG.out).mono ?_
        rintro e w1' ⟨rfl, rfl⟩
        go_wp2_with fail
        refine (great_any A2 ds l2 c2 w.heap.size false w1 (h'.below b1) HL'.out hm' HG'.out).mono ?_
        rintro e w1' ⟨rfl, rfl⟩
        go_wp2
        go_ret
        exact ⟨rfl, b1⟩
      obtain ⟨k, rfl⟩ := Int.eq_ofNat_of_zero_le (show 0 ≤ n by omega)
      exact lasts_body k A A2 cs ds l c l2 c2 keep tear w (by omega) (by omega) h HL.out hm HG.out h' HL'.out hm' HG'.out
end Go.Proofs.Ytckkgcogkcljeaa
