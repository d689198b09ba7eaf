/- DiskPrefix: the walk, over two disks. -/
import Derived.Test.YtckkgcogkcljeaaDp
namespace Go.Proofs.Ytckkgcogkcljeaa
open Go.RowKit Go.Deep Go.Maps

/-- Two disks that have no block in common. -/
def Has2 (B : Nat) (w0 w : World) (da db n : Nat) (sa sb : St) : Prop := ∃ Fa Fb, DiskAt w Fa da n sa ∧ DiskAt w Fb db n sb ∧ (∀ k, Fa k → ¬ Fb k) ∧ (∀ k, Fa k → B ≤ k) ∧ (∀ k, Fb k → B ≤ k) ∧ Below B w0 w ∧ B ≤ w.heap.size
theorem Has2.swap {B : Nat} {w0 w : World} {da db n : Nat} {sa sb : St} (h : Has2 B w0 w da db n sa sb) : Has2 B w0 w db da n sb sa := by
  obtain ⟨Fa, Fb, h1, h2, h3, h4, h5, h6, h7⟩ := h
  exact ⟨Fb, Fa, h2, h1, fun k hb ha => h3 k ha hb, h5, h4, h6, h7⟩
theorem Has2.below {B : Nat} {w0 w w' : World} {da db n : Nat} {sa sb : St} (h : Has2 B w0 w da db n sa sb) (hb : Below w.heap.size w w') : Has2 B w0 w' da db n sa sb := by
  obtain ⟨Fa, Fb, h1, h2, h3, h4, h5, h6, h7⟩ := h
  exact ⟨Fa, Fb, h1.below hb, h2.below hb, h3, h4, h5, h6.trans (hb.mono h7), Nat.le_trans h7 hb.size⟩
theorem Has2.frame {B : Nat} {w0 w : World} {da db n : Nat} {sa sb : St} (h : Has2 B w0 w da db n sa sb) : Below B w0 w := by
  obtain ⟨Fa, Fb, h1, h2, h3, h4, h5, h6, h7⟩ := h; exact h6
theorem Has2.wf {B : Nat} {w0 w : World} {da db n : Nat} {sa sb : St} (h : Has2 B w0 w da db n sa sb) : Wf n sa ∧ Wf n sb := by
  obtain ⟨Fa, Fb, h1, h2, h3, h4, h5, h6, h7⟩ := h; exact ⟨h1.wf, h2.wf⟩
theorem has2_does {B : Nat} {Fa Fb : Nat → Prop} {w0 w w' : World} {da db n : Nat} {sa sb : St} {v : Value} {e : Ending} (h2 : DiskAt w Fb db n sb) (h3 : ∀ k, Fa k → ¬ Fb k) (h4 : ∀ k, Fa k → B ≤ k) (h5 : ∀ k, Fb k → B ≤ k) (h6 : Below B w0 w) (h7 : B ≤ w.heap.size) (hd : Does Fa da n sa v w e w') : e = .returned v ∧ Has2 B w0 w' da db n sa sb := by
  obtain ⟨d1, d2, d3⟩ := hd
  refine ⟨d1, grow Fa w w', Fb, d2, h2.moves d3 (fun k hb ha => h3 k ha hb), ?_, ?_, h5, h6.trans (d3.below h7 h4), Nat.le_trans h7 d3.size⟩
  · rintro k (hk | hk) hb
    · exact h3 k hk hb
    · have := h2.lt k hb; omega
  · rintro k (hk | hk)
    · exact h4 k hk
    · omega
theorem write2 (B : Nat) (w0 : World) (da db n : Nat) (i : Int) (sa sa' sb : St) (A : Option Addr) (l c : Nat) (zs : List Int) (q : Int) (w : World) (h : Has2 B w0 w da db n sa sb) (hl : zs.length = l) (hg : Good A c zs w) (hc : sa.cache.length ≤ 999) (hq : writeE n i l = q) (hst : writeT n sa i zs = sa') :
    Calls Try.prog 14 #[.pointer (some ⟨da, 0, none⟩), .int .i64 i, .slice A l c] w fun e w' => e = .returned (.int .i64 q) ∧ Has2 B w0 w' da db n sa' sb := by
  obtain ⟨Fa, Fb, h1, h2, h3, h4, h5, h6, h7⟩ := h
  exact (write_any Fa da n i sa sa' A l c zs q w h1 hl hg hc hq hst).mono fun e w' hd => has2_does h2 h3 h4 h5 h6 h7 hd
theorem flush2 (B : Nat) (w0 : World) (da db n : Nat) (sa sa' sb : St) (w : World) (h : Has2 B w0 w da db n sa sb) (hc : sa.cache.length ≤ 1000) (hst : flushS sa = sa') :
    Calls Try.prog 17 #[.pointer (some ⟨da, 0, none⟩)] w fun e w' => e = .returned (.tuple #[]) ∧ Has2 B w0 w' da db n sa' sb := by
  obtain ⟨Fa, Fb, h1, h2, h3, h4, h5, h6, h7⟩ := h
  subst hst
  exact (flush_any Fa da n sa w h1 hc).mono fun e w' hd => has2_does h2 h3 h4 h5 h6 h7 hd
theorem crash2 (B : Nat) (w0 : World) (da db n : Nat) (sa sa' sb : St) (keep tear : Int) (w : World) (h : Has2 B w0 w da db n sa sb) (hc : sa.cache.length ≤ 1000) (hst : crashS sa keep tear = sa') :
    Calls Try.prog 19 #[.pointer (some ⟨da, 0, none⟩), .int .i64 keep, .int .i64 tear] w fun e w' => e = .returned (.tuple #[]) ∧ Has2 B w0 w' da db n sa' sb := by
  obtain ⟨Fa, Fb, h1, h2, h3, h4, h5, h6, h7⟩ := h
  subst hst
  exact (crash_any Fa da n sa keep tear w h1 hc).mono fun e w' hd => has2_does h2 h3 h4 h5 h6 h7 hd
theorem read2 (B : Nat) (w0 : World) (da db n i : Nat) (sa sb : St) (zs : List Int) (w : World) (h : Has2 B w0 w da db n sa sb) (hi : i < n) (hz : nowAt sa i = zs) :
    Calls Try.prog 21 #[.pointer (some ⟨da, 0, none⟩), .int .i64 i] w fun e w' => ∃ A c, e = .returned (.tuple #[.slice A 32 c, .int .i64 0]) ∧ Good A c zs w' ∧ Below w.heap.size w w' := by
  obtain ⟨Fa, Fb, h1, _⟩ := h
  refine (read_at Fa da n i sa zs w h1 hi hz).mono fun e w' hd => ?_
  obtain ⟨b, he, hr, hb1, hb2, hb⟩ := hd
  exact ⟨_, 32, he, good_of_range hr hb2 32 (by rw [← hz]; exact Nat.le_of_eq (h1.wf.now_len hi)), hb⟩

theorem writeT_bad {n : Nat} {st : St} {i : Int} {zs : List Int} (h : writeE n i zs.length ≠ 0) : writeT n st i zs = st := by
  unfold writeE at h
  unfold writeT
  split
  · rename_i hg
    rw [if_pos hg] at h
    split
    · rename_i hz; rw [if_pos hz] at h; exact absurd rfl h
    · rfl
  · rfl
theorem writeT_good {n : Nat} {st : St} {i : Int} {zs : List Int} (h : writeE n i zs.length = 0) : writeT n st i zs = writeS st i.toNat zs ∧ 0 ≤ i ∧ i < n ∧ zs.length = 32 := by
  unfold writeE at h
  unfold writeT
  split at h
  · rename_i hg
    split at h
    · rename_i hz
      have hi : 0 ≤ i ∧ i < n := by simpa [goodAt] using hg
      exact ⟨by rw [if_pos hg, if_pos hz], hi.1, hi.2, hz⟩
    · omega
  · omega
theorem take_snoc_lt (K : Nat) (ws : List (Nat × List Int)) (p : Nat × List Int) (h : ws.length < K) : (ws ++ [p]).take K = ws.take K ++ [p] := by
  rw [List.take_of_length_le (by simp; omega), List.take_of_length_le (by omega)]
theorem take_snoc_ge (K : Nat) (ws : List (Nat × List Int)) (p : Nat × List Int) (h : K ≤ ws.length) : (ws ++ [p]).take K = ws.take K := List.take_append_of_le_length h

/-! ### the sector of the write behind the kept ones -/
def nextOf (K : Nat) (ws : List (Nat × List Int)) : Int := match ws[K]? with
  | some p => p.1
  | none => -1
theorem next_before (K : Nat) (ws : List (Nat × List Int)) (p : Nat × List Int) (h : ws.length < K) : nextOf K (ws ++ [p]) = nextOf K ws := by
  unfold nextOf
  rw [List.getElem?_eq_none (by simp; omega), List.getElem?_eq_none (by omega)]
theorem next_at (K : Nat) (ws : List (Nat × List Int)) (p : Nat × List Int) (h : ws.length = K) : nextOf K (ws ++ [p]) = p.1 := by
  unfold nextOf; subst h; simp
theorem next_past (K : Nat) (ws : List (Nat × List Int)) (p : Nat × List Int) (h : K < ws.length) : nextOf K (ws ++ [p]) = nextOf K ws := by
  unfold nextOf; rw [List.getElem?_append_left h]
theorem prefix_same (S : List (List Int)) (ws : List (Nat × List Int)) (keep tear : Int) (K i : Nat) (hK : keep.toNat = K) (hi : i < S.length) (hn : (i : Int) ≠ nextOf K ws) : nowAt (crashS ⟨S, ws⟩ keep tear) i = nowAt (flushS ⟨S, ws.take K⟩) i := by
  show secAt (crashL S ws keep tear) i = secAt (carry S (ws.take K)) i
  unfold crashL keptOf
  rw [hK]
  rcases Nat.lt_or_ge K ws.length with h | h
  · rw [Nat.min_eq_left (by omega), List.getElem?_eq_getElem h]
    simp only
    unfold tornS
    rw [secAt_set _ _ _ _ (by rw [length_carry]; exact hi), if_neg]
    intro e
    apply hn
    unfold nextOf
    rw [List.getElem?_eq_getElem h]
    simp only
    omega
  · rw [Nat.min_eq_right h, List.getElem?_eq_none (Nat.le_refl _), List.take_of_length_le h]
set_option maxRecDepth 100000 in
set_option maxHeartbeats 4000000 in
theorem prefix_mid (n : Nat) (A A2 : Option Addr) (cs ds : List CallD) (l c l2 c2 : Nat) (kk' : Nat) (keep tear : Int) (w : World) (h1 : 1 ≤ n) (h2 : n ≤ 40) (h : CallsAt w.heap.size w A cs) (hl : cs.length = l) (hm : l ≤ maxLen) (hgr : greatB cs = false) (h' : CallsAt w.heap.size w A2 ds) (hl' : ds.length = l2) (hm' : l2 ≤ maxLen) (hgr' : greatB ds = false) (hk : keep = kk') :
    Calls Try.prog 5 #[.int .i64 n, .slice A l c, .slice A2 l2 c2, .int .i64 keep, .int .i64 tear] w fun e w' => e = .returned (.bool true) ∧ Below w.heap.size w w' := by
  have hkk : keep.toNat = kk' := by omega
  have HKK := Lib.hid hkk
  clear hkk
  subst hk
  have HL := Lib.hid hl
  have HG := Lib.hid hgr
  have HL' := Lib.hid hl'
  have HG' := Lib.hid hgr'
  have i1 : (1 : Int) ≤ (n : Int) := by omega
  have i2 : (n : Int) ≤ 40 := by omega
  have d1 : decide ((n : Int) < 1) = false := by simp; omega
  have d2 : decide ((40 : Int) < (n : Int)) = false := by simp; omega
  have hl80 : l2 ≤ 80 := by have := (great_no hgr').1; omega
  clear hl hgr hl' hgr'
  go_enter Try.func5, Try.ntmps5
  go_wp2_with fail
  refine (alive_any w).mono ?_
  rintro e w1 ⟨rfl, b1⟩
  have hc1 := h.below b1
  have hc1' := h'.below b1
  have s1 := b1.size
  go_wp2_with fail
  refine (great_any A cs l c w.heap.size false w1 hc1 HL.out hm HG.out).mono ?_
  rintro e w1' ⟨rfl, rfl⟩
  go_wp2_with fail
  refine (great_any A2 ds l2 c2 w.heap.size false w1 hc1' HL'.out hm' HG'.out).mono ?_
  rintro e w1' ⟨rfl, rfl⟩
  go_wp2_with fail
  refine (begin_any n A cs l c _ w1 h1 (by omega) (calls_more hc1 s1) HL.out HG.out rfl).mono ?_
  rintro e w2 ⟨Fa, da, rfl, hda, hFa, b2⟩
  have bw2 : Below w.heap.size w w2 := b1.trans (b2.mono s1)
  have s2 := b2.size
  have HDA := Lib.hid hda
  clear hda b1 b2 hc1 hc1'
  go_wp2_with fail
  refine (begin_any n A cs l c _ w2 h1 (by omega) (calls_more (h.below bw2) bw2.size) HL.out HG.out rfl).mono ?_
  rintro e w3 ⟨Fb, db, rfl, hdb, hFb, b3⟩
  have hlen := runS_len n cs
  have hcl := (great_no HG.out).1
  generalize runS n cs = st at *
  have H3 : Has2 w.heap.size w w3 da db n st st := ⟨Fa, Fb, HDA.out.below b3, hdb, fun k ha hb => by have := HDA.out.lt k ha; have := hFb k hb; omega, fun k hk => by have := hFa k hk; omega, fun k hk => by have := hFb k hk; omega, bw2.trans (b3.mono bw2.size), by have := b3.size; omega⟩
  have HH3 := Lib.hid H3
  clear H3 hdb hFb b3 HDA hFa bw2
  go_wp2_with fail
  refine (flush2 _ w da db n st ⟨nows st, []⟩ st w3 HH3.out (by omega) rfl).mono ?_
  rintro e w4 ⟨rfl, h4⟩
  have HH4 := Lib.hid h4.swap
  clear h4 HH3
  go_wp2_with fail
  refine (flush2 _ w db da n st ⟨nows st, []⟩ ⟨nows st, []⟩ w4 HH4.out (by omega) rfl).mono ?_
  rintro e w5 ⟨rfl, h5⟩
  have h5' := h5.swap
  generalize nows st = S at *
  have HH5 := Lib.hid h5'
  have hSl : S.length = n := h5.wf.1.len
  have HSL := Lib.hid hSl
  clear h5 h5' HH4 hSl
  go_wp2
  go_loopw [13, 14, 15] (fun a b k wr => ∃ (j : Nat) (ws : List (Nat × List Int)), j ≤ l2 ∧ a = .int .i64 ws.length ∧ b = .int .i64 (nextOf kk' ws) ∧ k = .int .i64 j ∧ ws.length ≤ j ∧ Has2 w.heap.size w wr da db n ⟨S, ws⟩ ⟨S, ws.take kk'⟩) (fun _ _ k _ => l2 - (intOf k).toNat)
  case atStart => exact ⟨0, [], by omega, rfl, rfl, rfl, by simp, by simpa using HH5.out⟩
  case round =>
    obtain ⟨j, ws, hj, rfl, rfl, rfl, hwl, hh⟩ := hrel
    have HH := Lib.hid hh
    have hbr := hh.frame
    have sbr := hbr.size
    clear hh
    by_cases hlt : j < l2
    · have hjc : j < ds.length := by rw [HL'.out]; exact hlt
      have hx : ds[j]? = some ds[j] := List.getElem?_eq_getElem hjc
      have hlx := (great_no HG'.out).2 _ (List.mem_of_getElem? hx)
      obtain ⟨b, off, rfl, hB, hall⟩ := (h'.below hbr) (by omega)
      obtain ⟨e0, e1, e2, e3, e4⟩ := hall j _ hx
      clear hall hx
      generalize ds[j] = x at *
      obtain ⟨what, at_, tr, xA, xc, zs⟩ := x
      simp only at hlx e0 e1 e2 e3 e4
      have hlt' : (j : Int) < (l2 : Int) := by omega
      have HBR := Lib.hid hbr
      have E4 := Lib.hid e4
      clear e4 hbr
      generalize hnx : nextOf kk' ws = nx at *
      have HNX := Lib.hid hnx
      clear hnx
      go_wp2_with fail
      have hal : Below wr.heap.size wr (wr.alloc (.cells #[.int .i64 what, .int .i64 at_, .int .i64 tr, .slice xA zs.length xc] 34)) := (Below.refl _ _).alloc (Nat.le_refl _) _
      have c1 : (wr.alloc (.cells #[.int .i64 what, .int .i64 at_, .int .i64 tr, .slice xA zs.length xc] 34)).cell? ⟨wr.heap.size, 1, none⟩ = some (.int .i64 at_) := by rw [cell_of_row _ _ _ _ _ _ (heap_alloc_new wr _)]; rfl
      have c3 : (wr.alloc (.cells #[.int .i64 what, .int .i64 at_, .int .i64 tr, .slice xA zs.length xc] 34)).cell? ⟨wr.heap.size, 3, none⟩ = some (.slice xA zs.length xc) := by rw [cell_of_row _ _ _ _ _ _ (heap_alloc_new wr _)]; rfl
      have hzW : (wr.alloc (.cells #[.int .i64 what, .int .i64 at_, .int .i64 tr, .slice xA zs.length xc] 34)).heap.size = wr.heap.size + 1 := by simp
      generalize (wr.alloc (.cells #[.int .i64 what, .int .i64 at_, .int .i64 tr, .slice xA zs.length xc] 34)) = W1 at *
      obtain ⟨Ga, Gb, q1, q2, q3, q4, q5, q6, q7⟩ := HH.out
      have hnA : ¬ Ga wr.heap.size := fun e => by have := q1.lt _ e; omega
      have hnB : ¬ Gb wr.heap.size := fun e => by have := q2.lt _ e; omega
      have HGd := Lib.hid ((E4.out.below (hal.mono q7)).good (by omega))
      have Q1 := Lib.hid (q1.below hal)
      have Q2 := Lib.hid (q2.below hal)
      have q67 := q6.trans (hal.mono q7)
      clear q1 q2 q6
      have Q3 := Lib.hid q3
      have Q4 := Lib.hid q4
      have Q5 := Lib.hid q5
      have Q6 := Lib.hid q67
      clear q3 q4 q5 q67
      by_cases hok : writeE n at_ zs.length = 0
      · obtain ⟨hT, ha0, han, hz32⟩ := writeT_good (st := ⟨S, ws⟩) hok
        obtain ⟨i, rfl⟩ := Int.eq_ofNat_of_zero_le ha0
        rw [Int.toNat_natCast] at hT
        have hTb := (writeT_good (st := ⟨S, ws.take kk'⟩) hok).1
        rw [Int.toNat_natCast] at hTb
        have HT := Lib.hid hT
        have HTb := Lib.hid hTb
        have HOK := Lib.hid hok
        have HZ32 := Lib.hid hz32
        clear hT hTb hok hz32
        refine (write_any Ga da n i ⟨S, ws⟩ ⟨S, ws ++ [(i, zs)]⟩ xA zs.length xc zs 0 W1 Q1.out rfl HGd.out (by show ws.length ≤ 999; omega) HOK.out HT.out).mono ?_
        rintro e w6 ⟨rfl, hd6, hm6⟩
        have s6 := hm6.size
        have c1b : w6.cell? ⟨wr.heap.size, 1, none⟩ = some (.int .i64 (i : Int)) := (World.cell?_of_block (a := ⟨wr.heap.size, 1, none⟩) (hm6.block wr.heap.size (by omega) hnA)).trans c1
        have c3b : w6.cell? ⟨wr.heap.size, 3, none⟩ = some (.slice xA zs.length xc) := (World.cell?_of_block (a := ⟨wr.heap.size, 3, none⟩) (hm6.block wr.heap.size (by omega) hnA)).trans c3
        have HM6 := Lib.hid hm6
        have HH6 := Lib.hid (has2_does (v := .tuple #[]) Q2.out Q3.out Q4.out Q5.out Q6.out (by omega) ⟨rfl, hd6, hm6⟩).2
        clear hd6 hm6
        rcases Nat.lt_trichotomy ws.length kk' with hc | hc | hc
        · have k1 : decide ((ws.length : Int) < (kk' : Int)) = true := by simp; omega
          have k2 : decide (ws.length < kk') = true := by simp; omega
          have k3 : ((ws.length : Int) == (kk' : Int)) = false := by simp; omega
          have k4 : (0 : Int) ≤ (kk' : Int) := by omega
          obtain ⟨Ga2, Gb2, r1, r2, r3, r4, r5, r6, r7⟩ := HH6.out
          have R1 := Lib.hid r1
          have R2 := Lib.hid r2
          have R3 := Lib.hid r3
          have R4 := Lib.hid r4
          have R5 := Lib.hid r5
          have R6 := Lib.hid r6
          clear r1 r2 r3 r4 r5 r6
          go_wp2_with fail
          refine (write_any Gb2 db n i ⟨S, ws.take kk'⟩ ⟨S, ws.take kk' ++ [(i, zs)]⟩ xA zs.length xc zs 0 w6 R2.out rfl ((E4.out.below ((hal.mono q7).trans (HM6.out.below (by omega) Q4.out))).good r7) (by show (ws.take kk').length ≤ 999; rw [List.length_take]; omega) HOK.out HTb.out).mono ?_
          rintro e w7 ⟨rfl, hd7, hm7⟩
          have HH7 := Lib.hid (has2_does (v := .tuple #[]) R1.out (fun k a b => R3.out k b a) R5.out R4.out R6.out r7 ⟨rfl, hd7, hm7⟩).2.swap
          clear hd7 hm7
          go_wp2
          go_roundw
          case rel =>
            refine ⟨j + 1, ws ++ [(i, zs)], by omega, by simp, by rw [next_before _ _ _ hc, HNX.out], by go_num, by simp; omega, ?_⟩
            rw [take_snoc_lt _ _ _ hc]
            exact HH7.out
          case measure => simp [intOf]; omega
        · have k1 : decide ((ws.length : Int) < (kk' : Int)) = false := by simp; omega
          have k2 : decide (ws.length < kk') = false := by simp; omega
          have k3 : ((ws.length : Int) == (kk' : Int)) = true := by simp; omega
          have k4 : (0 : Int) ≤ (kk' : Int) := by omega
          have HC := Lib.hid hc
          clear hc
          go_wp2
          go_roundw
          case rel =>
            refine ⟨j + 1, ws ++ [(i, zs)], by omega, by simp, by rw [next_at _ _ _ HC.out], by go_num, by simp; omega, ?_⟩
            rw [take_snoc_ge _ _ _ (by have := HC.out; omega)]
            exact HH6.out
          case measure => simp [intOf]; omega
        · have k1 : decide ((ws.length : Int) < (kk' : Int)) = false := by simp; omega
          have k2 : decide (ws.length < kk') = false := by simp; omega
          have k3 : ((ws.length : Int) == (kk' : Int)) = false := by simp; omega
          have k4 : (0 : Int) ≤ (kk' : Int) := by omega
          go_wp2
          go_roundw
          case rel =>
            refine ⟨j + 1, ws ++ [(i, zs)], by omega, by simp, by rw [next_past _ _ _ hc, HNX.out], by go_num, by simp; omega, ?_⟩
            rw [take_snoc_ge _ _ _ (by omega)]
            exact HH6.out
          case measure => simp [intOf]; omega
      · have hT := writeT_bad (st := ⟨S, ws⟩) hok
        have HT := Lib.hid hT
        generalize hq : writeE n at_ zs.length = q at *
        have HQ := Lib.hid hq
        have hqn : (q != 0) = true := by simpa using hok
        clear hT hq hok
        refine (write_any Ga da n at_ ⟨S, ws⟩ ⟨S, ws⟩ xA zs.length xc zs q W1 Q1.out rfl HGd.out (by show ws.length ≤ 999; omega) HQ.out HT.out).mono ?_
        rintro e w6 ⟨rfl, hd6, hm6⟩
        have HH6 := Lib.hid (has2_does (v := .tuple #[]) Q2.out Q3.out Q4.out Q5.out Q6.out (by omega) ⟨rfl, hd6, hm6⟩).2
        clear hd6 hm6
        go_wp2
        go_roundw
        case rel => exact ⟨j + 1, ws, by omega, rfl, by rw [HNX.out], by go_num, by omega, HH6.out⟩
        case measure => simp [intOf]; omega
    · obtain rfl : j = l2 := by omega
      have hsame : ∀ i, i < n → (i : Int) ≠ nextOf kk' ws → nowAt (crashS ⟨S, ws⟩ kk' tear) i = nowAt (flushS ⟨S, ws.take kk'⟩) i := fun i hi hn => prefix_same S ws kk' tear kk' i HKK.out (by rw [HSL.out]; exact hi) hn
      have HSA := Lib.hid hsame
      have hcl2 : (⟨S, ws⟩ : St).cache.length ≤ 1000 := by show ws.length ≤ 1000; omega
      have hcl3 : (⟨S, ws.take kk'⟩ : St).cache.length ≤ 1000 := by show (ws.take kk').length ≤ 1000; rw [List.length_take]; omega
      clear hsame
      generalize nextOf kk' ws = nx at *
      go_wp2_with fail
      refine (crash2 _ w da db n ⟨S, ws⟩ _ ⟨S, ws.take kk'⟩ kk' tear wr HH.out hcl2 rfl).mono ?_
      rintro e w6 ⟨rfl, h6⟩
      have HH6 := Lib.hid h6.swap
      clear h6
      go_wp2_with fail
      refine (flush2 _ w db da n ⟨S, ws.take kk'⟩ _ _ w6 HH6.out hcl3 rfl).mono ?_
      rintro e w7 ⟨rfl, h7⟩
      have HH7 := Lib.hid h7
      clear h7 HH6 hcl2 hcl3
      generalize crashS ⟨S, ws⟩ kk' tear = sa at *
      generalize flushS ⟨S, ws.take kk'⟩ = sb at *
      go_wp2
      go_loopw [17] (fun k wq => ∃ q : Nat, q ≤ n ∧ k = .int .i64 q ∧ Below w7.heap.size w7 wq) (fun k _ => n - (intOf k).toNat)
      case atStart => exact ⟨0, by omega, rfl, Below.refl _ _⟩
      case round =>
        obtain ⟨q, hq, rfl, hbq⟩ := hrel
        have HBQ := Lib.hid hbq
        have sq := hbq.size
        clear hbq
        by_cases hqn : q < n
        · have hqn' : (q : Int) < (n : Int) := by omega
          go_wp2_with fail
          refine (read2 _ w da db n q sa sb _ wr (HH7.out.below HBQ.out).swap hqn rfl).mono ?_
          rintro e w8 ⟨A8, c8, rfl, g8, b8⟩
          have G8 := Lib.hid g8
          have HB8 := Lib.hid (HBQ.out.trans (b8.mono sq))
          clear g8 b8
          go_wp2_with fail
          refine (read2 _ w db da n q sb sa _ w8 (HH7.out.below HB8.out) hqn rfl).mono ?_
          rintro e w9 ⟨A9, c9, rfl, g9, b9⟩
          have G9 := Lib.hid g9
          have G8b := Lib.hid (G8.out.below b9)
          have HB9 := Lib.hid (HB8.out.trans (b9.mono HB8.out.size))
          clear g9 b9 G8 HB8
          by_cases hqx : (q : Int) = nx
          · have k1 : ((q : Int) != nx) = false := by simpa using hqx
            have HQX := Lib.hid hqx
            clear hqx
            go_wp2
            go_roundw
            case rel => exact ⟨q + 1, by omega, by go_num, HB9.out⟩
            case measure => simp [intOf]; omega
          · have k1 : ((q : Int) != nx) = true := by simpa using hqx
            have hnq := HSA.out q hqn hqx
            have G8c : Good A8 c8 (nowAt sb q) w9 := by have := G8b.out; rwa [hnq] at this
            have hlq : (nowAt sb q).length = 32 := HH7.out.wf.1.now_len hqn
            have GG8 := Lib.hid G8c
            have HLQ := Lib.hid hlq
            clear hnq G8c hlq hqx
            go_wp2_with fail
            refine (sameB A8 A9 (nowAt sb q) (nowAt sb q) c8 c9 32 32 true HLQ.out HLQ.out (by omega) (by omega) (by simp) w9 GG8.out G9.out).mono ?_
            rintro e w10 ⟨rfl, b10⟩
            have HB10 := Lib.hid (HB9.out.trans (b10.mono HB9.out.size))
            clear b10
            go_wp2
            go_roundw
            case rel => exact ⟨q + 1, by omega, by go_num, HB10.out⟩
            case measure => simp [intOf]; omega
        · obtain rfl : q = n := by omega
          go_wp2
          go_ret
          exact ⟨rfl, HH7.out.frame.trans (HBQ.out.mono HH7.out.frame.size)⟩
set_option maxRecDepth 100000 in
set_option maxHeartbeats 4000000 in
theorem prefix_low (n : Nat) (A A2 : Option Addr) (cs ds : List CallD) (l c l2 c2 : Nat) (keep tear : Int) (w : World) (h1 : 1 ≤ n) (h2 : n ≤ 40) (h : CallsAt w.heap.size w A cs) (hl : cs.length = l) (hm : l ≤ maxLen) (hgr : greatB cs = false) (h' : CallsAt w.heap.size w A2 ds) (hl' : ds.length = l2) (hm' : l2 ≤ maxLen) (hgr' : greatB ds = false) (hk : keep < 0) :
    Calls Try.prog 5 #[.int .i64 n, .slice A l c, .slice A2 l2 c2, .int .i64 keep, .int .i64 tear] w fun e w' => e = .returned (.bool true) ∧ Below w.heap.size w w' := by
  have hkk : keep.toNat = 0 := by omega
  have HKK := Lib.hid hkk
  clear hkk
  have HL := Lib.hid hl
  have HG := Lib.hid hgr
  have HL' := Lib.hid hl'
  have HG' := Lib.hid hgr'
  have i1 : (1 : Int) ≤ (n : Int) := by omega
  have i2 : (n : Int) ≤ 40 := by omega
  have d1 : decide ((n : Int) < 1) = false := by simp; omega
  have d2 : decide ((40 : Int) < (n : Int)) = false := by simp; omega
  have hl80 : l2 ≤ 80 := by have := (great_no hgr').1; omega
  clear hl hgr hl' hgr'
  go_enter Try.func5, Try.ntmps5
  go_wp2_with fail
  refine (alive_any w).mono ?_
  rintro e w1 ⟨rfl, b1⟩
  have hc1 := h.below b1
  have hc1' := h'.below b1
  have s1 := b1.size
  go_wp2_with fail
  refine (great_any A cs l c w.heap.size false w1 hc1 HL.out hm HG.out).mono ?_
  rintro e w1' ⟨rfl, rfl⟩
  go_wp2_with fail
  refine (great_any A2 ds l2 c2 w.heap.size false w1 hc1' HL'.out hm' HG'.out).mono ?_
  rintro e w1' ⟨rfl, rfl⟩
  go_wp2_with fail
  refine (begin_any n A cs l c _ w1 h1 (by omega) (calls_more hc1 s1) HL.out HG.out rfl).mono ?_
  rintro e w2 ⟨Fa, da, rfl, hda, hFa, b2⟩
  have bw2 : Below w.heap.size w w2 := b1.trans (b2.mono s1)
  have s2 := b2.size
  have HDA := Lib.hid hda
  clear hda b1 b2 hc1 hc1'
  go_wp2_with fail
  refine (begin_any n A cs l c _ w2 h1 (by omega) (calls_more (h.below bw2) bw2.size) HL.out HG.out rfl).mono ?_
  rintro e w3 ⟨Fb, db, rfl, hdb, hFb, b3⟩
  have hlen := runS_len n cs
  have hcl := (great_no HG.out).1
  generalize runS n cs = st at *
  have H3 : Has2 w.heap.size w w3 da db n st st := ⟨Fa, Fb, HDA.out.below b3, hdb, fun k ha hb => by have := HDA.out.lt k ha; have := hFb k hb; omega, fun k hk => by have := hFa k hk; omega, fun k hk => by have := hFb k hk; omega, bw2.trans (b3.mono bw2.size), by have := b3.size; omega⟩
  have HH3 := Lib.hid H3
  clear H3 hdb hFb b3 HDA hFa bw2
  go_wp2_with fail
  refine (flush2 _ w da db n st ⟨nows st, []⟩ st w3 HH3.out (by omega) rfl).mono ?_
  rintro e w4 ⟨rfl, h4⟩
  have HH4 := Lib.hid h4.swap
  clear h4 HH3
  go_wp2_with fail
  refine (flush2 _ w db da n st ⟨nows st, []⟩ ⟨nows st, []⟩ w4 HH4.out (by omega) rfl).mono ?_
  rintro e w5 ⟨rfl, h5⟩
  have h5' := h5.swap
  generalize nows st = S at *
  have HH5 := Lib.hid h5'
  have hSl : S.length = n := h5.wf.1.len
  have HSL := Lib.hid hSl
  clear h5 h5' HH4 hSl
  go_wp2
  go_loopw [13, 14, 15] (fun a b k wr => ∃ (j : Nat) (ws : List (Nat × List Int)), j ≤ l2 ∧ a = .int .i64 ws.length ∧ b = .int .i64 (nextOf 0 ws) ∧ k = .int .i64 j ∧ ws.length ≤ j ∧ Has2 w.heap.size w wr da db n ⟨S, ws⟩ ⟨S, ws.take 0⟩) (fun _ _ k _ => l2 - (intOf k).toNat)
  case atStart => exact ⟨0, [], by omega, rfl, rfl, rfl, by simp, by simpa using HH5.out⟩
  case round =>
    obtain ⟨j, ws, hj, rfl, rfl, rfl, hwl, hh⟩ := hrel
    have HH := Lib.hid hh
    have hbr := hh.frame
    have sbr := hbr.size
    clear hh
    by_cases hlt : j < l2
    · have hjc : j < ds.length := by rw [HL'.out]; exact hlt
      have hx : ds[j]? = some ds[j] := List.getElem?_eq_getElem hjc
      have hlx := (great_no HG'.out).2 _ (List.mem_of_getElem? hx)
      obtain ⟨b, off, rfl, hB, hall⟩ := (h'.below hbr) (by omega)
      obtain ⟨e0, e1, e2, e3, e4⟩ := hall j _ hx
      clear hall hx
      generalize ds[j] = x at *
      obtain ⟨what, at_, tr, xA, xc, zs⟩ := x
      simp only at hlx e0 e1 e2 e3 e4
      have hlt' : (j : Int) < (l2 : Int) := by omega
      have HBR := Lib.hid hbr
      have E4 := Lib.hid e4
      clear e4 hbr
      generalize hnx : nextOf 0 ws = nx at *
      have HNX := Lib.hid hnx
      clear hnx
      go_wp2_with fail
      have hal : Below wr.heap.size wr (wr.alloc (.cells #[.int .i64 what, .int .i64 at_, .int .i64 tr, .slice xA zs.length xc] 34)) := (Below.refl _ _).alloc (Nat.le_refl _) _
      have c1 : (wr.alloc (.cells #[.int .i64 what, .int .i64 at_, .int .i64 tr, .slice xA zs.length xc] 34)).cell? ⟨wr.heap.size, 1, none⟩ = some (.int .i64 at_) := by rw [cell_of_row _ _ _ _ _ _ (heap_alloc_new wr _)]; rfl
      have c3 : (wr.alloc (.cells #[.int .i64 what, .int .i64 at_, .int .i64 tr, .slice xA zs.length xc] 34)).cell? ⟨wr.heap.size, 3, none⟩ = some (.slice xA zs.length xc) := by rw [cell_of_row _ _ _ _ _ _ (heap_alloc_new wr _)]; rfl
      have hzW : (wr.alloc (.cells #[.int .i64 what, .int .i64 at_, .int .i64 tr, .slice xA zs.length xc] 34)).heap.size = wr.heap.size + 1 := by simp
      generalize (wr.alloc (.cells #[.int .i64 what, .int .i64 at_, .int .i64 tr, .slice xA zs.length xc] 34)) = W1 at *
      obtain ⟨Ga, Gb, q1, q2, q3, q4, q5, q6, q7⟩ := HH.out
      have hnA : ¬ Ga wr.heap.size := fun e => by have := q1.lt _ e; omega
      have hnB : ¬ Gb wr.heap.size := fun e => by have := q2.lt _ e; omega
      have HGd := Lib.hid ((E4.out.below (hal.mono q7)).good (by omega))
      have Q1 := Lib.hid (q1.below hal)
      have Q2 := Lib.hid (q2.below hal)
      have q67 := q6.trans (hal.mono q7)
      clear q1 q2 q6
      have Q3 := Lib.hid q3
      have Q4 := Lib.hid q4
      have Q5 := Lib.hid q5
      have Q6 := Lib.hid q67
      clear q3 q4 q5 q67
      by_cases hok : writeE n at_ zs.length = 0
      · obtain ⟨hT, ha0, han, hz32⟩ := writeT_good (st := ⟨S, ws⟩) hok
        obtain ⟨i, rfl⟩ := Int.eq_ofNat_of_zero_le ha0
        rw [Int.toNat_natCast] at hT
        have hTb := (writeT_good (st := ⟨S, ws.take 0⟩) hok).1
        rw [Int.toNat_natCast] at hTb
        have HT := Lib.hid hT
        have HTb := Lib.hid hTb
        have HOK := Lib.hid hok
        have HZ32 := Lib.hid hz32
        clear hT hTb hok hz32
        refine (write_any Ga da n i ⟨S, ws⟩ ⟨S, ws ++ [(i, zs)]⟩ xA zs.length xc zs 0 W1 Q1.out rfl HGd.out (by show ws.length ≤ 999; omega) HOK.out HT.out).mono ?_
        rintro e w6 ⟨rfl, hd6, hm6⟩
        have s6 := hm6.size
        have c1b : w6.cell? ⟨wr.heap.size, 1, none⟩ = some (.int .i64 (i : Int)) := (World.cell?_of_block (a := ⟨wr.heap.size, 1, none⟩) (hm6.block wr.heap.size (by omega) hnA)).trans c1
        have c3b : w6.cell? ⟨wr.heap.size, 3, none⟩ = some (.slice xA zs.length xc) := (World.cell?_of_block (a := ⟨wr.heap.size, 3, none⟩) (hm6.block wr.heap.size (by omega) hnA)).trans c3
        have HM6 := Lib.hid hm6
        have HH6 := Lib.hid (has2_does (v := .tuple #[]) Q2.out Q3.out Q4.out Q5.out Q6.out (by omega) ⟨rfl, hd6, hm6⟩).2
        clear hd6 hm6
        rcases Nat.lt_trichotomy ws.length 0 with hc | hc | hc
        · exact absurd hc (by omega)
        · have k1 : decide ((ws.length : Int) < keep) = false := by simp; omega
          have k3 : ((ws.length : Int) == 0) = true := by simp; exact List.eq_nil_of_length_eq_zero hc
          have k4 : (ws.length == 0) = true := by simp; exact List.eq_nil_of_length_eq_zero hc
          have HC := Lib.hid hc
          clear hc
          go_wp2
          go_roundw
          case rel =>
            refine ⟨j + 1, ws ++ [(i, zs)], by omega, by simp, by rw [next_at _ _ _ HC.out], by go_num, by simp; omega, ?_⟩
            rw [take_snoc_ge _ _ _ (by have := HC.out; omega)]
            exact HH6.out
          case measure => simp [intOf]; omega
        · have k1 : decide ((ws.length : Int) < keep) = false := by simp; omega
          have k3 : ((ws.length : Int) == 0) = false := by
            have : (ws.length : Int) ≠ 0 := by omega
            simpa using this
          go_wp2
          go_roundw
          case rel =>
            refine ⟨j + 1, ws ++ [(i, zs)], by omega, by simp, by rw [next_past _ _ _ hc, HNX.out], by go_num, by simp; omega, ?_⟩
            rw [take_snoc_ge _ _ _ (by omega)]
            exact HH6.out
          case measure => simp [intOf]; omega
      · have hT := writeT_bad (st := ⟨S, ws⟩) hok
        have HT := Lib.hid hT
        generalize hq : writeE n at_ zs.length = q at *
        have HQ := Lib.hid hq
        have hqn : (q != 0) = true := by simpa using hok
        clear hT hq hok
        refine (write_any Ga da n at_ ⟨S, ws⟩ ⟨S, ws⟩ xA zs.length xc zs q W1 Q1.out rfl HGd.out (by show ws.length ≤ 999; omega) HQ.out HT.out).mono ?_
        rintro e w6 ⟨rfl, hd6, hm6⟩
        have HH6 := Lib.hid (has2_does (v := .tuple #[]) Q2.out Q3.out Q4.out Q5.out Q6.out (by omega) ⟨rfl, hd6, hm6⟩).2
        clear hd6 hm6
        go_wp2
        go_roundw
        case rel => exact ⟨j + 1, ws, by omega, rfl, by rw [HNX.out], by go_num, by omega, HH6.out⟩
        case measure => simp [intOf]; omega
    · obtain rfl : j = l2 := by omega
      have hsame : ∀ i, i < n → (i : Int) ≠ nextOf 0 ws → nowAt (crashS ⟨S, ws⟩ keep tear) i = nowAt (flushS ⟨S, ws.take 0⟩) i := fun i hi hn => prefix_same S ws keep tear 0 i HKK.out (by rw [HSL.out]; exact hi) hn
      have HSA := Lib.hid hsame
      have hcl2 : (⟨S, ws⟩ : St).cache.length ≤ 1000 := by show ws.length ≤ 1000; omega
      have hcl3 : (⟨S, ws.take 0⟩ : St).cache.length ≤ 1000 := by show (ws.take 0).length ≤ 1000; rw [List.length_take]; omega
      clear hsame
      generalize nextOf 0 ws = nx at *
      go_wp2_with fail
      refine (crash2 _ w da db n ⟨S, ws⟩ _ ⟨S, ws.take 0⟩ keep tear wr HH.out hcl2 rfl).mono ?_
      rintro e w6 ⟨rfl, h6⟩
      have HH6 := Lib.hid h6.swap
      clear h6
      go_wp2_with fail
      refine (flush2 _ w db da n ⟨S, ws.take 0⟩ _ _ w6 HH6.out hcl3 rfl).mono ?_
      rintro e w7 ⟨rfl, h7⟩
      have HH7 := Lib.hid h7
      clear h7 HH6 hcl2 hcl3
      generalize crashS ⟨S, ws⟩ keep tear = sa at *
      generalize flushS ⟨S, ws.take 0⟩ = sb at *
      go_wp2
      go_loopw [17] (fun k wq => ∃ q : Nat, q ≤ n ∧ k = .int .i64 q ∧ Below w7.heap.size w7 wq) (fun k _ => n - (intOf k).toNat)
      case atStart => exact ⟨0, by omega, rfl, Below.refl _ _⟩
      case round =>
        obtain ⟨q, hq, rfl, hbq⟩ := hrel
        have HBQ := Lib.hid hbq
        have sq := hbq.size
        clear hbq
        by_cases hqn : q < n
        · have hqn' : (q : Int) < (n : Int) := by omega
          go_wp2_with fail
          refine (read2 _ w da db n q sa sb _ wr (HH7.out.below HBQ.out).swap hqn rfl).mono ?_
          rintro e w8 ⟨A8, c8, rfl, g8, b8⟩
          have G8 := Lib.hid g8
          have HB8 := Lib.hid (HBQ.out.trans (b8.mono sq))
          clear g8 b8
          go_wp2_with fail
          refine (read2 _ w db da n q sb sa _ w8 (HH7.out.below HB8.out) hqn rfl).mono ?_
          rintro e w9 ⟨A9, c9, rfl, g9, b9⟩
          have G9 := Lib.hid g9
          have G8b := Lib.hid (G8.out.below b9)
          have HB9 := Lib.hid (HB8.out.trans (b9.mono HB8.out.size))
          clear g9 b9 G8 HB8
          by_cases hqx : (q : Int) = nx
          · have k1 : ((q : Int) != nx) = false := by simpa using hqx
            have HQX := Lib.hid hqx
            clear hqx
            go_wp2
            go_roundw
            case rel => exact ⟨q + 1, by omega, by go_num, HB9.out⟩
            case measure => simp [intOf]; omega
          · have k1 : ((q : Int) != nx) = true := by simpa using hqx
            have hnq := HSA.out q hqn hqx
            have G8c : Good A8 c8 (nowAt sb q) w9 := by have := G8b.out; rwa [hnq] at this
            have hlq : (nowAt sb q).length = 32 := HH7.out.wf.1.now_len hqn
            have GG8 := Lib.hid G8c
            have HLQ := Lib.hid hlq
            clear hnq G8c hlq hqx
            go_wp2_with fail
            refine (sameB A8 A9 (nowAt sb q) (nowAt sb q) c8 c9 32 32 true HLQ.out HLQ.out (by omega) (by omega) (by simp) w9 GG8.out G9.out).mono ?_
            rintro e w10 ⟨rfl, b10⟩
            have HB10 := Lib.hid (HB9.out.trans (b10.mono HB9.out.size))
            clear b10
            go_wp2
            go_roundw
            case rel => exact ⟨q + 1, by omega, by go_num, HB10.out⟩
            case measure => simp [intOf]; omega
        · obtain rfl : q = n := by omega
          go_wp2
          go_ret
          exact ⟨rfl, HH7.out.frame.trans (HBQ.out.mono HH7.out.frame.size)⟩
theorem prefix_body (n : Nat) (A A2 : Option Addr) (cs ds : List CallD) (l c l2 c2 : Nat) (keep tear : Int) (w : World) (h1 : 1 ≤ n) (h2 : n ≤ 40) (h : CallsAt w.heap.size w A cs) (hl : cs.length = l) (hm : l ≤ maxLen) (hgr : greatB cs = false) (h' : CallsAt w.heap.size w A2 ds) (hl' : ds.length = l2) (hm' : l2 ≤ maxLen) (hgr' : greatB ds = false) :
    Calls Try.prog 5 #[.int .i64 n, .slice A l c, .slice A2 l2 c2, .int .i64 keep, .int .i64 tear] w fun e w' => e = .returned (.bool true) ∧ Below w.heap.size w w' := by
  by_cases hk : keep < 0
  · exact prefix_low n A A2 cs ds l c l2 c2 keep tear w h1 h2 h hl hm hgr h' hl' hm' hgr' hk
  · exact prefix_mid n A A2 cs ds l c l2 c2 keep.toNat keep tear w h1 h2 h hl hm hgr h' hl' hm' hgr' (by omega)
set_option maxRecDepth 100000 in
set_option maxHeartbeats 1000000 in
theorem prefix_any (n : Int) (A A2 : Option Addr) (cs ds : List CallD) (l c l2 c2 : Nat) (keep tear : Int) (w : World) (h : CallsAt w.heap.size w A cs) (hl : cs.length = l) (hm : l ≤ maxLen) (h' : CallsAt w.heap.size w A2 ds) (hl' : ds.length = l2) (hm' : l2 ≤ maxLen) :
    Calls Try.prog 5 #[.int .i64 n, .slice A l c, .slice A2 l2 c2, .int .i64 keep, .int .i64 tear] w fun e w' => e = .returned (.bool true) ∧ Below w.heap.size w w' := by
  have HL := Lib.hid hl
  have HL' := Lib.hid hl'
  clear hl hl'
  cases hgr : greatB cs with
  | true =>
    have HG := Lib.hid hgr
    clear hgr
    go_enter Try.func5, Try.ntmps5
    go_wp2_with fail
    refine (alive_any w).mono ?_
    rintro e w1 ⟨rfl, b1⟩
    go_wp2_with fail
    refine (great_any A cs l c w.heap.size true w1 (h.below b1) HL.out hm HG.out).mono ?_
    rintro e w1' ⟨rfl, rfl⟩
    go_wp2
    go_ret
    exact ⟨rfl, b1⟩
  | false =>
    have HG := Lib.hid hgr
    clear hgr
    cases hgr' : greatB ds with
    | true =>
      have HG' := Lib.hid hgr'
      clear hgr'
      go_enter Try.func5, Try.ntmps5
      go_wp2_with fail
      refine (alive_any w).mono ?_
      rintro e w1 ⟨rfl, b1⟩
      go_wp2_with fail
      refine (great_any A cs l c w.heap.size false w1 (h.below b1) HL.out hm HG.out).mono ?_
      rintro e w1' ⟨rfl, rfl⟩
      go_wp2_with fail
      refine (great_any A2 ds l2 c2 w.heap.size true w1 (h'.below b1) HL'.out hm' HG'.out).mono ?_
      rintro e w1' ⟨rfl, rfl⟩
      go_wp2
      go_ret
      exact ⟨rfl, b1⟩
    | false =>
      have HG' := Lib.hid hgr'
      clear hgr'
      by_cases h1 : n < 1
      · have d1 : decide (n < 1) = true := by simpa using h1
        go_enter Try.func5, Try.ntmps5
        go_wp2_with fail
        refine (alive_any w).mono ?_
        rintro e w1 ⟨rfl, b1⟩
        go_wp2_with fail
        refine (great_any A cs l c w.heap.size false w1 (h.below b1) HL.out hm HG.out).mono ?_
        rintro e w1' ⟨rfl, rfl⟩
        go_wp2_with fail
        refine (great_any A2 ds l2 c2 w.heap.size false w1 (h'.below b1) HL'.out hm' HG'.out).mono ?_
        rintro e w1' ⟨rfl, rfl⟩
        go_wp2
        go_ret
        exact ⟨rfl, b1⟩
      by_cases h2 : 40 < n
      · have d2 : decide (40 < n) = true := by simpa using h2
        have d1 : decide (n < 1) = false := by simp; omega
        go_enter Try.func5, Try.ntmps5
        go_wp2_with fail
        refine (alive_any w).mono ?_
        rintro e w1 ⟨rfl, b1⟩
        go_wp2_with fail
        refine (great_any A cs l c w.heap.size false w1 (h.below b1) HL.out hm HG.out).mono ?_
        rintro e w1' ⟨rfl, rfl⟩
        go_wp2_with fail
        refine (great_any A2 ds l2 c2 w.heap.size false w1 (h'.below b1) HL'.out hm' HG'.out).mono ?_
        rintro e w1' ⟨rfl, rfl⟩
        go_wp2
        go_ret
        exact ⟨rfl, b1⟩
      obtain ⟨k, rfl⟩ := Int.eq_ofNat_of_zero_le (show 0 ≤ n by omega)
      exact prefix_body k A A2 cs ds l c l2 c2 keep tear w (by omega) (by omega) h HL.out hm HG.out h' HL'.out hm' HG'.out
end Go.Proofs.Ytckkgcogkcljeaa
