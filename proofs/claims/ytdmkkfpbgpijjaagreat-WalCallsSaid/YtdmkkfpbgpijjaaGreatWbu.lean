/- The document's own log (concordatref05): lay, Append, Checkpoint. -/
import Derived.Test.YtdmkkfpbgpijjaaGreatWbt
namespace Go.Proofs.YtdmkkfpbgpijjaaGreat
open Go.RowKit Go.Deep
set_option linter.unusedVariables false

theorem RefAt.more {w : World} {G G' : Nat → Prop} {rb n : Nat} {st : St} (h : RefAt w G rb n st) (hs : ∀ k, G k → G' k) (hl : ∀ k, G' k → k < w.heap.size) : RefAt w G' rb n st := by
  obtain ⟨sv, cv, vs, es, h, g0, g1, g2, g3, g4, g5⟩ := h
  exact ⟨sv, cv, vs, es, h, hs _ g0, fun k e => hs _ (g1 k e), fun k e => hs _ (g2 k e), fun v hv k e => hs _ (g3 v hv k e), fun e he k hk => hs _ (g4 e he k hk), hl⟩
theorem RLogIn.next_set {w : World} {gb rb : Nat} {next first sure : Nat} (h : RLogIn w gb rb ⟨next, first, sure⟩) (x : Nat) : RLogIn (w.setCell ⟨gb, 1, none⟩ (.int .i64 (x : Int))) gb rb ⟨x, first, sure⟩ :=
  ⟨(World.cell?_setCell_other _ _ _ _ (by simp)).trans h.c0, World.cell?_setCell_same _ _ _ h.c1, (World.cell?_setCell_other _ _ _ _ (by simp)).trans h.c2, (World.cell?_setCell_other _ _ _ _ (by simp)).trans h.c3, fun i => by rw [World.frozen?_setCell]; exact h.fz i⟩
theorem RLogIn.first_set {w : World} {gb rb : Nat} {next first sure : Nat} (h : RLogIn w gb rb ⟨next, first, sure⟩) (x : Nat) : RLogIn (w.setCell ⟨gb, 2, none⟩ (.int .i64 (x : Int))) gb rb ⟨next, x, sure⟩ :=
  ⟨(World.cell?_setCell_other _ _ _ _ (by simp)).trans h.c0, (World.cell?_setCell_other _ _ _ _ (by simp)).trans h.c1, World.cell?_setCell_same _ _ _ h.c2, (World.cell?_setCell_other _ _ _ _ (by simp)).trans h.c3, fun i => by rw [World.frozen?_setCell]; exact h.fz i⟩
/-- Between two rounds of lay: k sectors are written. -/
structure LayT (w : World) (G : Nat → Prop) (gb rb N : Nat) (st : St) (next first sure : Nat) (ss : List Sec) (k : Nat) (W : World) : Prop where
  at_ : ∃ G', RLogAt W G' gb rb N ⟨st.safe, st.cache ++ puts N (ss.take k)⟩ ⟨next + k, first, sure⟩ ∧ ∀ x, G' x → G x ∨ w.heap.size ≤ x
  mv : Moves (fun x => G x ∨ x = gb) w W
theorem LayT.start {w : World} {G : Nat → Prop} {gb rb N : Nat} {st : St} {next first sure : Nat} (ss : List Sec) (h : RLogAt w G gb rb N st ⟨next, first, sure⟩) : LayT w G gb rb N st next first sure ss 0 w :=
  ⟨⟨G, by simpa [puts] using h, fun x hx => .inl hx⟩, Moves.refl _ _⟩
/-- One sector more. -/
theorem LayT.step {w : World} {G : Nat → Prop} {gb rb N : Nat} {st : St} {next first sure : Nat} {ss : List Sec} {k : Nat} {W V V2 : World} {G' : Nat → Prop} (hk : k < ss.length) (hn : ss[k].n = next + k) (h : LayT w G gb rb N st next first sure ss k W)
    (hG : ∀ x, G' x → G x ∨ w.heap.size ≤ x) (hV : RLogAt V G' gb rb N ⟨st.safe, st.cache ++ puts N (ss.take k)⟩ ⟨next + k, first, sure⟩) (hb : Below W.heap.size W V) (hgb : gb < w.heap.size)
    (hd : RefAt V2 (grow G' V V2) rb N (writeS ⟨st.safe, st.cache ++ puts N (ss.take k)⟩ (placeOf N (next + k)) (secL ss[k]))) (hm : Moves G' V V2) :
    LayT w G gb rb N st next first sure ss (k + 1) (V2.setCell ⟨gb, 1, none⟩ (.int .i64 ((next : Int) + k + 1))) := by
  have hng : ¬ grow G' V V2 gb := not_grow hV.apart hV.log.lt
  have hm2 : Moves (fun x => x = gb) V2 (V2.setCell ⟨gb, 1, none⟩ (.int .i64 ((next : Int) + k + 1))) := moves_setCell _ _ _ _ rfl
  have hl := (hV.log.kept (hm.block gb hV.log.lt hV.apart)).next_set (next + (k + 1))
  rw [show ((next + (k + 1) : Nat) : Int) = (next : Int) + k + 1 by omega] at hl
  have e1 : writeS ⟨st.safe, st.cache ++ puts N (ss.take k)⟩ (placeOf N (next + k)) (secL ss[k]) = ⟨st.safe, st.cache ++ puts N (ss.take (k + 1))⟩ := by
    unfold writeS
    rw [List.take_succ_eq_append_getElem hk, puts_append]
    simp [puts, hn]
  rw [e1] at hd
  have s1 := h.mv.size
  have s2 := hb.size
  refine ⟨⟨grow G' V V2, ⟨hl, hd.moves hm2 (fun x hx e => hng (e ▸ hx)), hng⟩, fun x hx => ?_⟩, ?_⟩
  · rcases hx with y | y
    · exact hG x y
    · exact .inr (by omega)
  · refine ((h.mv.trans (moves_of_below (F := fun x => G x ∨ x = gb) hb) (fun _ x => .inl x)).trans hm (fun x hx => ?_)).trans hm2 (fun x hx => .inl (.inr hx))
    rcases hG x hx with y | y
    · exact .inl (.inl y)
    · exact .inr y
theorem LayT.done {w : World} {G : Nat → Prop} {gb rb N : Nat} {st : St} {next first sure : Nat} {ss : List Sec} {k : Nat} {W : World} {v : Value} (h : LayT w G gb rb N st next first sure ss k W) (hk : ss.length = k) (hG : ∀ x, G x → x < w.heap.size) (hgb : gb < w.heap.size) (hng : ¬ G gb) : RLogDoes G gb rb N ⟨st.safe, st.cache ++ puts N ss⟩ ⟨next + k, first, sure⟩ v w (.returned v) W := by
  obtain ⟨G', ha, hg⟩ := h.at_
  rw [List.take_of_length_le (by omega)] at ha
  refine ⟨rfl, ⟨ha.log, ha.disk.more (fun x hx => ?_) ?_, not_grow hng hgb⟩, h.mv⟩
  · rcases hg x hx with y | y
    · exact .inl y
    · exact .inr ⟨y, ha.disk.lt x hx⟩
  · rintro x (y | y)
    · exact Nat.lt_of_lt_of_le (hG x y) h.mv.size
    · exact y.2
set_option maxRecDepth 100000 in
set_option maxHeartbeats 2000000 in
theorem refLay (G : Nat → Prop) (gb rb N : Nat) (st : St) (next first sure : Nat) (A : Option Addr) (len cap : Nat) (zs : List Int) (w : World) (h : RLogAt w G gb rb N st ⟨next, first, sure⟩) (hN1 : 1 ≤ N) (hN : N ≤ 60) (hl : zs.length = len) (hl2 : len ≤ 8000) (hz : isBytes zs) (g : Good A cap zs w) (hA : ∀ a, A = some a → ¬ (G a.block ∨ a.block = gb))
    (hn1 : 1 ≤ next) (hnx : next + secsN zs ≤ 4294967296) (hf : first ≤ next) (hc : st.cache.length + secsN zs ≤ 999) :
    Calls Tryz.prog 43 #[.pointer (some ⟨gb, 0, none⟩), .slice A len cap] w (RLogDoes G gb rb N ⟨st.safe, st.cache ++ puts N (laySecs next first zs)⟩ ⟨next + secsN zs, first, sure⟩ (.tuple #[]) w) := by
  have hm : (len + 15) / 16 = secsN zs := by rw [← hl]; rfl
  have hsl : (laySecs next first zs).length = secsN zs := laySecs_length _ _ _
  have hlcap : len ≤ cap := by have := g.2.1; omega
  have H0 := Lib.hid (LayT.start (laySecs next first zs) h)
  have HSL := Lib.hid hsl
  have HAT := Lib.hid (fun k (hk : k < (laySecs next first zs).length) => laySecs_at next first zs k hk)
  have hgb := h.log.lt
  have HEND := Lib.hid (fun (W : World) (hT : LayT w G gb rb N st next first sure (laySecs next first zs) (secsN zs) W) => hT.done (v := .tuple #[]) hsl h.disk.lt hgb h.apart)
  obtain ⟨m, hmm⟩ : ∃ m, secsN zs = m := ⟨_, rfl⟩
  rw [hmm] at hm hnx hc HSL HEND ⊢
  have HG := Lib.hid g
  have HA := Lib.hid hA
  have HZB := Lib.hid hz
  have HL := Lib.hid hl
  generalize laySecs next first zs = ss at *
  clear h hl hz g hA hsl hmm
  go_enter Tryz.func43, Tryz.ntmps43
  go_wp2
  go_loopw [1, 4] (fun x b wr => ∃ (k r cc : Nat) (B : Option Addr), k ≤ m ∧ r = len - 16 * k ∧ r ≤ cc ∧ x = .slice B r cc ∧ b = .bool (k == 0) ∧ (0 < r → ∃ b0 off, A = some ⟨b0, off, none⟩ ∧ B = some ⟨b0, off + 16 * k, none⟩) ∧ LayT w G gb rb N st next first sure ss k wr) (fun x _ _ => lenS x)
  case atStart => exact ⟨0, len, cap, A, Nat.zero_le _, by omega, hlcap, rfl, rfl, fun h0 => by
    obtain ⟨b0, off, e⟩ := HG.out.some (by rw [HL.out]; exact h0)
    exact ⟨b0, off, e, e⟩, H0.out⟩
  case round =>
    obtain ⟨k, r, cc, B, hk, hr, hrc, rfl, rfl, hB, hT⟩ := hrel
    by_cases h0 : 0 < r
    · obtain ⟨b0, off, rfl, rfl⟩ := hB h0
      have h0i : (0 : Int) < (r : Int) := by omega
      have h0d : decide (0 < r) = true := by simpa using h0
      have hkm : k < m := by omega
      have hks : k < ss.length := by rw [HSL.out]; exact hkm
      obtain ⟨ee, hee⟩ : ∃ ee, min r 16 = ee := ⟨_, rfl⟩
      obtain ⟨G', hat, hgg⟩ := hT.at_
      have e1 := HAT.out k hks
      have hdl : ss[k].data.length = ee := by
        rw [e1]
        show ((zs.drop (16 * k)).take 16).length = ee
        rw [List.length_take, List.length_drop, HL.out]; omega
      have gk : Good (some ⟨b0, off + 16 * k, none⟩) cc ss[k].data wr := by
        rw [e1]
        have := ((good_movesG HG.out hT.mv HA.out).drop (16 * k) (by rw [HL.out]; omega)).take 16
        exact ⟨this.1, by show ((zs.drop (16 * k)).take 16).length ≤ cc; rw [List.length_take, List.length_drop, HL.out]; omega, fun e => by cases e⟩
      have okk : okS ss[k] := by
        rw [e1]
        exact layAt_ok next first zs HZB.out k (by omega) (by omega)
      have hnk : ss[k].n = next + k := by rw [e1]; rfl
      have hfk : ss[k].first = first := by rw [e1]; rfl
      have hbk : ss[k].beg = (k == 0) := by rw [e1]; rfl
      obtain ⟨sb, capN, r0⟩ := safe_cell hat.disk
      obtain ⟨nk, hnk2⟩ : ∃ nk, next + k = nk := ⟨_, rfl⟩
      obtain ⟨ob, hob⟩ : ∃ ob, off + 16 * k = ob := ⟨_, rfl⟩
      obtain ⟨i, hi⟩ : ∃ i, placeOf N nk = i := ⟨_, rfl⟩
      have hiN : i < N := by rw [← hi]; exact placeOf_lt N nk (by omega)
      have him : ((nk : Int) - 1) % (N : Int) = (i : Int) := by rw [← hi, show (nk : Int) - 1 = ((nk - 1 : Nat) : Int) by omega]; exact (Int.natCast_emod _ _).symm
      have hN0 : ((N : Int) == 0) = false := by simp; omega
      have hnz : ¬ (N : Int) = 0 := by omega
      have hp0 : (0 : Int) ≤ (nk : Int) - 1 := by omega
      have htm : ((nk : Int) - 1).tmod (N : Int) = (i : Int) := by rw [Int.tmod_eq_emod_of_nonneg hp0]; exact him
      have hnz2 : ¬ N = 0 := by omega
      have hwr : IntKind.i64.wrap ((nk : Int) - 1) = (nk : Int) - 1 := IntWalk.i64_in _ (by omega)
      have hcl : (st.cache ++ puts N (ss.take k)).length ≤ 999 := by rw [List.length_append, puts_length, List.length_take, HSL.out]; omega
      rw [hob] at gk ⊢
      rw [hnk2] at hat hnk
      have c0 := hat.log.c0
      have c1 := hat.log.c1
      have c2 := hat.log.c2
      simp only at c1 c2
      have hglt := hat.log.lt
      have hrlt : rb < wr.heap.size := World.block_lt_of_cell? wr _ r0
      have HSTEP := Lib.hid (fun (V V2 : World) (hb : Below wr.heap.size wr V) hd hm => hT.step (V := V) (V2 := V2) hks (by rw [hnk, hnk2]) hgg (by rw [hnk2]; exact hat.below hb) hb hgb hd hm)
      rw [hnk2, hi] at HSTEP
      have HAT2 := Lib.hid hat
      have GK := Lib.hid gk
      have HNK := Lib.hid hnk2
      have HOB := Lib.hid hob
      generalize ss[k] = s at *
      have cS := fun (W : World) (gW : Good (some ⟨b0, ob, none⟩) cc s.data W) => refSector s okk (some ⟨b0, ob, none⟩) cc ee _ hdl rfl W gW
      simp only [hnk, hfk, hbk] at cS
      have HLN := Lib.hid (secL_length okk)
      have cW := fun W (hW : Below wr.heap.size wr W) (Ab : Option Addr) (cb : Nat) gW => rwrite_in G' rb N i _ Ab cb (secL s) W (hat.disk.below hW) hiN HLN.out gW hcl
      have hec : (ee : Int) ≤ (cc : Int) := by omega
      have hee2 : ee ≤ r := by omega
      have kS : ∀ W, Below wr.heap.size wr W → (W.cell? ⟨gb, 0, none⟩ = some (.pointer (some ⟨rb, 0, none⟩)) ∧ W.cell? ⟨gb, 1, none⟩ = some (.int .i64 nk) ∧ W.cell? ⟨gb, 2, none⟩ = some (.int .i64 first) ∧ W.cell? ⟨rb, 0, none⟩ = some (.slice (some ⟨sb, 0, none⟩) N capN)) := fun W hb => ⟨(hb.cell (p := ⟨gb, 0, none⟩) hglt).trans c0, (hb.cell (p := ⟨gb, 1, none⟩) hglt).trans c1, (hb.cell (p := ⟨gb, 2, none⟩) hglt).trans c2, (hb.cell (p := ⟨rb, 0, none⟩) hrlt).trans r0⟩
      have KS := Lib.hid kS
      have LayS := Lib.hid (show ∀ V V2 : World, Below wr.heap.size wr V → Moves G' V V2 → V2.cell? ⟨rb, 0, none⟩ = V.cell? ⟨rb, 0, none⟩ → (V2.cell? ⟨gb, 0, none⟩ = some (.pointer (some ⟨rb, 0, none⟩)) ∧ V2.cell? ⟨gb, 1, none⟩ = some (.int .i64 nk) ∧ V2.cell? ⟨gb, 2, none⟩ = some (.int .i64 first) ∧ V2.cell? ⟨rb, 0, none⟩ = some (.slice (some ⟨sb, 0, none⟩) N capN)) from fun V V2 hb hm hz => by
        have eb := hm.block gb (Nat.lt_of_lt_of_le hglt hb.size) hat.apart
        obtain ⟨q0, q1, q2, q3⟩ := kS V hb
        exact ⟨(World.cell?_of_block (a := ⟨gb, 0, none⟩) eb).trans q0, (World.cell?_of_block (a := ⟨gb, 1, none⟩) eb).trans q1, (World.cell?_of_block (a := ⟨gb, 2, none⟩) eb).trans q2, hz.trans q3⟩)
      have HFZ := Lib.hid (show ∀ V V2 : World, Below wr.heap.size wr V → Moves G' V V2 → V2.frozen? ⟨gb, 1, none⟩ = false from fun V V2 hb hm => by
        have eb := hm.block gb (Nat.lt_of_lt_of_le hglt hb.size) hat.apart
        exact (World.frozen?_of_block (a := ⟨gb, 1, none⟩) eb).trans ((hb.frozen (p := ⟨gb, 1, none⟩) hglt).trans (hat.log.fz 1)))
      have kd : Below wr.heap.size wr wr.drew := (Below.refl _ _).drew
      have hm16 : (r : Int) ≤ 16 ∧ ee = r ∨ (16 : Int) < r ∧ ee = 16 := by omega
      have hee16 : ee ≤ 16 := by omega
      have hnkb : nk ≤ 4294967296 := by omega
      have hrb : r ≤ 8000 := by omega
      have HR := Lib.hid hr
      clear kS hat gk hdl okk hnk hfk hbk hi him e1 hnk2 hob hT hB hee HAT hr
      rcases hm16 with ⟨hm1, he⟩ | ⟨hm1, he⟩
      · subst he
        go_wp2_with fail
        go_region_held3 (fun W => W.cell? ⟨gb, 0, none⟩ = some (.pointer (some ⟨rb, 0, none⟩)) ∧ W.cell? ⟨gb, 1, none⟩ = some (.int .i64 nk) ∧ W.cell? ⟨gb, 2, none⟩ = some (.int .i64 first) ∧ W.cell? ⟨rb, 0, none⟩ = some (.slice (some ⟨sb, 0, none⟩) N capN)) (first | assumption | exact KS.out _ kd | exact KS.out _ z1) (first
          | (go_at_call 47; (with_reducible refine (cS _ (GK.out.below kd)).mono ?_); rintro e V ⟨vb, rfl, ob1, k1⟩; obtain ⟨Ab, cb, rfl, g1⟩ := ob1.good; rw [HLN.out]; have z1 : Below wr.heap.size wr V := kd.trans k1)
          | (go_at_call 20; (with_reducible refine (cW _ z1 Ab cb g1).mono ?_); rintro e V2 ⟨⟨rfl, hd2, hm2⟩, hz2⟩; have hS2 := LayS.out V V2 z1 hm2 hz2))
        have hstep := Lib.hid (HSTEP.out V V2 z1 hd2 hm2)
        have q1 := hS2.2.1
        have q2 := HFZ.out V V2 z1 hm2
        clear hS2 hd2 hm2 hz2 g1 ob1 k1 z1 cS cW LayS HSTEP KS kd
        by_cases hce : cc = ee
        · have hre : ee = ee := rfl
          (try subst hre)
          subst hce
          go_wp2
          go_roundw
          case rel =>
            have e1 := HR.out
            have e2 := HNK.out
            refine ⟨k + 1, 0, 0, _, by omega, by omega, Nat.le_refl _, rfl, by simp, fun h => absurd h (by omega), ?_⟩
            have := hstep.out
            rwa [show ((next : Int) + k + 1) = (nk : Int) + 1 by omega] at this
          case measure => simp [lenS]; omega
        · have hrl : (ee : Int) ≤ (ee : Int) := by omega
          go_wp2
          go_roundw
          case rel =>
            have e1 := HR.out
            have e2 := HNK.out
            have e3 := HOB.out
            refine ⟨k + 1, 0, cc - ee, _, by omega, by omega, by omega, rfl, by simp, fun h => absurd h (by omega), ?_⟩
            have := hstep.out
            rwa [show ((next : Int) + k + 1) = (nk : Int) + 1 by omega] at this
          case measure => simp [lenS]; omega
      · have HK := Lib.hid he
        clear he
        go_wp2_with fail
        (try rw [show Value.int IntKind.i64 16 = Value.int IntKind.i64 (ee : Int) by rw [HK.out]; rfl])
        go_region_held3 (fun W => W.cell? ⟨gb, 0, none⟩ = some (.pointer (some ⟨rb, 0, none⟩)) ∧ W.cell? ⟨gb, 1, none⟩ = some (.int .i64 nk) ∧ W.cell? ⟨gb, 2, none⟩ = some (.int .i64 first) ∧ W.cell? ⟨rb, 0, none⟩ = some (.slice (some ⟨sb, 0, none⟩) N capN)) (first | assumption | exact KS.out _ kd | exact KS.out _ z1) (first
          | (go_at_call 47; (with_reducible refine (cS _ (GK.out.below kd)).mono ?_); rintro e V ⟨vb, rfl, ob1, k1⟩; obtain ⟨Ab, cb, rfl, g1⟩ := ob1.good; rw [HLN.out]; have z1 : Below wr.heap.size wr V := kd.trans k1)
          | (go_at_call 20; (with_reducible refine (cW _ z1 Ab cb g1).mono ?_); rintro e V2 ⟨⟨rfl, hd2, hm2⟩, hz2⟩; have hS2 := LayS.out V V2 z1 hm2 hz2))
        have hstep := Lib.hid (HSTEP.out V V2 z1 hd2 hm2)
        have q1 := hS2.2.1
        have q2 := HFZ.out V V2 z1 hm2
        clear hS2 hd2 hm2 hz2 g1 ob1 k1 z1 cS cW LayS HSTEP KS kd
        by_cases hce : cc = ee
        · exfalso
          have := HK.out
          omega
        · have hrl : (ee : Int) ≤ (r : Int) := by omega
          go_wp2
          go_roundw
          case rel =>
            have e1 := HR.out
            have e2 := HNK.out
            have e3 := HOB.out
            have e4 := HK.out
            refine ⟨k + 1, r - ee, cc - ee, _, by omega, by omega, by omega, rfl, by simp, fun h => ⟨b0, off, rfl, ?_⟩, ?_⟩
            · rw [show off + 16 * (k + 1) = ob + ee by omega]
            · have := hstep.out
              rwa [show ((next : Int) + k + 1) = (nk : Int) + 1 by omega] at this
          case measure => have e4 := HK.out; simp [lenS]; omega
    · have hr0 : r = 0 := by omega
      have hkm : k = m := by omega
      subst hr0 hkm
      go_wp2
      go_end0
      exact HEND.out _ hT
end Go.Proofs.YtdmkkfpbgpijjaaGreat
