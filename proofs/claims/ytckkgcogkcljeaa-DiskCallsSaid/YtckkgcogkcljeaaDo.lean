/- DiskReads: the walk. -/
import Derived.Test.YtckkgcogkcljeaaDn
namespace Go.Proofs.Ytckkgcogkcljeaa
open Go.RowKit Go.Deep Go.Maps

theorem info_bs : (Try.prog.info? 32).map (fun i => (i.zero, i.size, i.bytes)) = some (some (.slice none 0 0), 1, 24) := by kernel_rfl
def slV (b : Nat) : Value := .slice (some ⟨b, 0, none⟩) 32 32
/-- A list of lists of bytes, the i-th what sector i had: none of them is F's. -/
structure Olds (B : Nat) (F : Nat → Prop) (w : World) (v : Value) (bs : List Nat) (st : St) : Prop where
  row : w.ownsRow B 32 1 v bs.length (bs.map slV)
  nf : ∀ k, v.ownBlock = some k → ¬ F k
  rng : ∀ (i : Nat) b, bs[i]? = some b → b < w.heap.size ∧ ¬ F b ∧ w.rangeAt b 0 (secC (nowAt st i))
  ap : ∀ (i : Nat) b, bs[i]? = some b → v.ownBlock ≠ some b
theorem Olds.below {B : Nat} {F : Nat → Prop} {w w' : World} {v : Value} {bs : List Nat} {st : St} (h : Olds B F w v bs st) (hb : Below w.heap.size w w') : Olds B F w' v bs st :=
  ⟨row_kept h.row (fun k hk => hb.block k (h.row.lt k hk).2), h.nf, fun i b hi => ⟨Nat.lt_of_lt_of_le (h.rng i b hi).1 hb.size, (h.rng i b hi).2.1, rangeAt_of_block' (hb.block b (h.rng i b hi).1) (h.rng i b hi).2.2⟩, h.ap⟩
theorem Olds.moves {B : Nat} {F : Nat → Prop} {w w' : World} {v : Value} {bs : List Nat} {st : St} (h : Olds B F w v bs st) (hm : Moves F w w') : Olds B (grow F w w') w' v bs st :=
  ⟨row_kept h.row (fun k hk => hm.block k (h.row.lt k hk).2 (h.nf k hk)), fun k hk e => e.elim (h.nf k hk) (fun e => by have := (h.row.lt k hk).2; omega),
   fun i b hi => ⟨Nat.lt_of_lt_of_le (h.rng i b hi).1 hm.size, fun e => e.elim (h.rng i b hi).2.1 (fun e => by have := (h.rng i b hi).1; omega), rangeAt_of_block' (hm.block b (h.rng i b hi).1 (h.rng i b hi).2.1) (h.rng i b hi).2.2⟩, h.ap⟩
theorem Olds.snoc {B : Nat} {F : Nat → Prop} {w w1 : World} {o : Obj} {v : Value} {bs : List Nat} {st : St} {b g cap : Nat} (h : Olds B F w v bs st) (hown : w1.ownsRow B 32 1 (.slice (some ⟨g, 0, none⟩) (bs.length + 1) cap) (bs.length + 1) (bs.map slV ++ [slV b])) (hgrow : (w.alloc o).grownBy w1 v.ownBlock)
    (hat : v.ownBlock = some g ∨ g = w.heap.size + 1) (hF : ∀ k, F k → k < w.heap.size) (hb : b < w.heap.size) (hFb : ¬ F b) (hvb : v.ownBlock ≠ some b) (hr : w.rangeAt b 0 (secC (nowAt st bs.length))) :
    Olds B F w1 (.slice (some ⟨g, 0, none⟩) (bs.length + 1) cap) (bs ++ [b]) st := by
  have hs : w.heap.size + 1 ≤ w1.heap.size := by have := hgrow.size; simpa using this
  have hk : ∀ c, c < w.heap.size → v.ownBlock ≠ some c → w1.heap[c]? = w.heap[c]? := fun c hc hne => by
    rw [hgrow.block c (by simp; omega) (fun e => hne e.symm)]
    exact Below.heap_alloc w o c hc
  have hsplit : ∀ (i : Nat) c, (bs ++ [b])[i]? = some c → (bs[i]? = some c) ∨ (i = bs.length ∧ c = b) := fun i c hi => by
    rcases Nat.lt_or_ge i bs.length with hlt | hge
    · rw [List.getElem?_append_left hlt] at hi; exact .inl hi
    · have hi2 : i = bs.length := by
        rcases Nat.lt_or_ge bs.length i with h1 | h1
        · rw [List.getElem?_eq_none (by simp; omega)] at hi; cases hi
        · omega
      subst hi2
      simp at hi
      exact .inr ⟨rfl, hi.symm⟩
  refine ⟨by simpa using hown, fun k hk' => ?_, fun i c hi => ?_, fun i c hi => ?_⟩
  · have e : g = k := by simpa [Value.ownBlock] using hk'
    subst e
    rcases hat with e | e
    · exact h.nf g e
    · exact fun x => by have := hF g x; omega
  · rcases hsplit i c hi with hi | ⟨rfl, rfl⟩
    · obtain ⟨r1, r2, r3⟩ := h.rng i c hi
      exact ⟨by omega, r2, rangeAt_of_block' (hk c r1 (h.ap i c hi)) r3⟩
    · exact ⟨by omega, hFb, rangeAt_of_block' (hk c hb hvb) hr⟩
  · have hne : g ≠ c := by
      rcases hsplit i c hi with hi | ⟨rfl, rfl⟩
      · rcases hat with e | e
        · exact fun x => h.ap i c hi (x ▸ e)
        · have := (h.rng i c hi).1; omega
      · rcases hat with e | e
        · exact fun x => hvb (x ▸ e)
        · omega
    exact fun e => hne (by simpa [Value.ownBlock] using e)
set_option maxRecDepth 100000 in
set_option maxHeartbeats 4000000 in
theorem reads_body (n : Nat) (A : Option Addr) (cs : List CallD) (l c : Nat) (at_ : Int) (A3 : Option Addr) (zs : List Int) (c3 : Nat) (w : World) (h1 : 1 ≤ n) (h2 : n ≤ 40) (h : CallsAt w.heap.size w A cs) (hl : cs.length = l) (hm : l ≤ maxLen) (hgr : greatB cs = false) (hz : zs.length = 32) (hg : Good0 w.heap.size w A3 c3 zs) :
    Calls Try.prog 7 #[.int .i64 n, .slice A l c, .int .i64 at_, .slice A3 32 c3] w fun e w' => e = .returned (.bool true) ∧ Below w.heap.size w w' := by
  have HL := Lib.hid hl
  have HG := Lib.hid hgr
  have HZ := Lib.hid hz
  have i1 : (1 : Int) ≤ (n : Int) := by omega
  have i2 : (n : Int) ≤ 40 := by omega
  have d1 : decide ((n : Int) < 1) = false := by simp; omega
  have d2 : decide ((40 : Int) < (n : Int)) = false := by simp; omega
  obtain ⟨i0, hi0, hz0, hz1, hz2⟩ := info_parts info_bs
  clear hl hgr hz
  go_enter Try.func7, Try.ntmps7
  go_wp2_with fail
  refine (alive_any w).mono ?_
  rintro e w1 ⟨rfl, b1⟩
  have hc1 := h.below b1
  have s1 := b1.size
  go_wp2_with fail
  refine (great_any A cs l c w.heap.size false w1 hc1 HL.out hm HG.out).mono ?_
  rintro e w1' ⟨rfl, rfl⟩
  go_wp2_with fail
  refine (begin_any n A cs l c _ w1 h1 (by omega) (calls_more hc1 s1) HL.out HG.out rfl).mono ?_
  rintro e w2 ⟨F, db, rfl, hd2, hF, b2⟩
  have hlen := runS_len n cs
  have hcl := (great_no HG.out).1
  generalize runS n cs = st at *
  have hFl := hd2.lt
  have HD := Lib.hid hd2
  have bw2 : Below w.heap.size w w2 := b1.trans (b2.mono s1)
  have s2 := b2.size
  have hF2 : ∀ k, F k → w.heap.size ≤ k := fun k hk => by have := hF k hk; omega
  have hwf := hd2.wf
  clear hd2 hc1 b2 b1 hF
  have hol0 : Olds w2.heap.size F (w2.alloc (.cells #[] 32)) (.slice (some ⟨w2.heap.size, 0, none⟩) 0 0) [] st := ⟨World.ownsRow_lit w2 #[] 0 (Nat.le_refl _) (by simp) (by simp), fun k hk e => by
    have e2 : w2.heap.size = k := by simpa [Value.ownBlock] using hk
    have := hFl k e
    omega, (fun i b hi => by simp at hi), (fun i b hi => by simp at hi)⟩
  have HO0 := Lib.hid hol0
  clear hol0
  go_wp2
  go_loopw [10, 11] (fun o k wr => ∃ bs : List Nat, bs.length ≤ n ∧ k = .int .i64 bs.length ∧ Olds w2.heap.size F wr o bs st ∧ Below w2.heap.size w2 wr) (fun _ k _ => n - (intOf k).toNat)
  case atStart => exact ⟨[], by simp, rfl, HO0.out, (Below.refl _ _).alloc (Nat.le_refl _) _⟩
  case round =>
    obtain ⟨bs, hj, rfl, ho, hb⟩ := hrel
    have hsz := hb.size
    by_cases hlt : bs.length < n
    · have hlt' : (bs.length : Int) < (n : Int) := by omega
      have HO1 := Lib.hid ho
      clear ho
      go_wp2_with fail
      refine (read_at F db n bs.length st _ wr (HD.out.below hb) hlt rfl).mono ?_
      rintro e w3 ⟨b3, rfl, hr3, hl3, hg3, hb3⟩
      have HO3 := Lib.hid (HO1.out.below hb3)
      have hz3 := hb3.size
      have hvl : ∀ k, u10.ownBlock = some k → k < wr.heap.size := fun k hk => (HO1.out.row.lt k hk).2
      have HVL := Lib.hid hvl
      have HR3 := Lib.hid hr3
      have HB3 := Lib.hid (hb.trans (hb3.mono hsz))
      clear hr3 hvl hb3
      go_wp2_with (at_builtin; refine wpList_append_lies _ rfl _ _ 42 rfl w2.heap.size 32 i0 _ 1 24 Try.underlying42 hi0 hz0 hz1 hz2 rfl (by omega) _ bs.length (bs.map slV) rfl (HO3.out.row.alloc _) ⟨w3.heap.size, 0, none⟩ 1 1 [slV b3] rfl rfl (World.news_of_block (cs := #[slV b3]) (t := 32) (fr := (0, 0)) (heap_alloc_new w3 _)) (by simp [slV, Value.oneCell']) (by omega) (by simp only [maxLen]; omega) (by omega) (by simp; omega) (w3.heap.size + 1) (by simp) ?_; intro g cap W4 hown4 hgrow4 hat4 hlt4)
      have HOW := Lib.hid hown4
      have HGR := Lib.hid hgrow4
      clear hown4 hgrow4
      go_roundw
      case rel =>
        have hbelow : Below w2.heap.size w2 W4 := (HB3.out.alloc (by omega) _).grown HGR.out (by simp; omega) (fun k e => (HO3.out.row.lt k e).1)
        refine ⟨bs ++ [b3], by simp; omega, by simp, ?_, hbelow⟩
        exact HO3.out.snoc HOW.out HGR.out hat4 (fun k hk => by have := hFl k hk; omega) hg3 (fun e => by have := hFl b3 e; omega) (fun e => by have := HVL.out b3 e; omega) HR3.out
      case measure => simp [intOf]; omega
    · have hbn : bs.length = n := by omega
      obtain ⟨g, cap, rfl, hgB, hgl⟩ := ho.row.form (by omega)
      have HO1 := Lib.hid ho
      have HBN := Lib.hid hbn
      have bwr : Below w.heap.size w wr := bw2.trans (hb.mono (by omega))
      have HBW := Lib.hid bwr
      have swr := bwr.size
      have HDr := Lib.hid (HD.out.below hb)
      clear ho hbn bwr
      cases hgo : goodAt n at_ with
      | false =>
        have hE : writeE n at_ 32 = 11 := by unfold writeE; rw [hgo]; rfl
        have HGO := Lib.hid hgo
        have HE := Lib.hid hE
        clear hgo hE
        go_wp2_with fail
        refine (write_any F db n at_ st _ A3 32 c3 zs 11 wr HDr.out HZ.out ((hg.below HBW.out).good swr) (by omega) HE.out rfl).mono ?_
        rintro e w4 ⟨rfl, hd4, hm4⟩
        have HB4 := Lib.hid (HBW.out.trans (hm4.below swr hF2))
        clear hd4 hm4
        by_cases hn0 : at_ < 0
        · have d5 : decide (at_ < 0) = true := by simpa using hn0
          go_wp2
          go_ret
          exact ⟨rfl, HB4.out⟩
        · have d5 : decide (at_ < 0) = false := by simpa using hn0
          have d6 : decide ((n : Int) ≤ at_) = true := by
            have := HGO.out
            simp [goodAt] at this
            simp
            omega
          go_wp2
          go_ret
          exact ⟨rfl, HB4.out⟩
      | true =>
        have hgi : 0 ≤ at_ ∧ at_ < n := by simpa [goodAt] using hgo
        obtain ⟨i, rfl⟩ := Int.eq_ofNat_of_zero_le hgi.1
        have hin : i < n := by omega
        have hE : writeE n i 32 = 0 := by unfold writeE; rw [hgo]; rfl
        have hT : writeT n st i zs = writeS st i zs := by unfold writeT; rw [hgo, if_pos rfl, if_pos HZ.out, Int.toNat_natCast]
        have HE := Lib.hid hE
        have HT := Lib.hid hT
        have p0 : (0 : Int) ≤ (i : Int) := by omega
        have p1 : (i : Int) < (n : Int) := by omega
        have d3 : decide ((i : Int) < 0) = false := by simp
        have d4 : decide ((n : Int) ≤ (i : Int)) = false := by simp; omega
        have d7 : decide (n ≤ i) = false := by simp; omega
        clear hgo hE hT hgi
        go_wp2_with fail
        refine (write_any F db n i st _ A3 32 c3 zs 0 wr HDr.out HZ.out ((hg.below HBW.out).good swr) (by omega) HE.out HT.out).mono ?_
        rintro e w4 ⟨rfl, hd4, hm4⟩
        have hlen4 : (writeS st i zs).cache.length ≤ 100 := by simp [writeS]; omega
        have HL4 := Lib.hid hlen4
        have HD4 := Lib.hid hd4
        have HO4 := Lib.hid (HO1.out.moves hm4)
        have HB4 := Lib.hid (HBW.out.trans (hm4.below swr hF2))
        have hF4 : ∀ k, grow F wr w4 k → w.heap.size ≤ k := fun k hk => hk.elim (hF2 k) (fun e => by omega)
        have HF4 := Lib.hid hF4
        clear hd4 hm4 hlen4 hF4
        go_wp2
        go_loopw [15] (fun a wq => ∃ (q : Nat) (s : St) (F' : Nat → Prop), q ≤ 2 ∧ a = .int .i64 q ∧ DiskAt wq F' db n s ∧ (∀ j, j < n → nowAt s j = nowAt (writeS st i zs) j) ∧ s.cache.length ≤ 100 ∧ (∀ k, F' k → w.heap.size ≤ k) ∧ Olds w2.heap.size F' wq (.slice (some ⟨g, 0, none⟩) bs.length cap) bs st ∧ Below w.heap.size w wq) (fun a _ => 2 - (intOf a).toNat)
        case atStart => exact ⟨0, _, _, by omega, rfl, HD4.out, fun j _ => rfl, HL4.out, HF4.out, HO4.out, HB4.out⟩
        case round =>
          obtain ⟨q, s, F', hq, rfl, hdq, hnq, hcq, hFq, hoq, hbq⟩ := hrel
          have HDQ := Lib.hid hdq
          have HNQ := Lib.hid hnq
          have HOQ := Lib.hid hoq
          have HBQ := Lib.hid hbq
          have HFQ := Lib.hid hFq
          have sq := hbq.size
          clear hdq hnq hoq hbq hFq
          by_cases hq2 : q < 2
          · have hq2' : (q : Int) < 2 := by omega
            go_wp2
            go_loopw [16] (fun k wi => ∃ j : Nat, j ≤ n ∧ k = .int .i64 j ∧ Below wr.heap.size wr wi) (fun k _ => n - (intOf k).toNat)
            case atStart => exact ⟨0, by omega, rfl, Below.refl _ _⟩
            case round =>
              obtain ⟨j, hj, rfl, hbi⟩ := hrel
              have HDI := Lib.hid (HDQ.out.below hbi)
              have HOI := Lib.hid (HOQ.out.below hbi)
              have HBI := Lib.hid (HBQ.out.trans (hbi.mono sq))
              have si := HBI.out.size
              have HI0 := Lib.hid hbi
              clear hbi
              by_cases hjn : j < n
              · have hjn' : (j : Int) < (n : Int) := by omega
                have hnow : nowAt s j = if i = j then zs else nowAt st j := by rw [HNQ.out j hjn]; exact now_write hwf hjn
                have hnl : (nowAt st j).length = 32 := hwf.now_len hjn
                by_cases hij : i = j
                · subst hij
                  rw [if_pos rfl] at hnow
                  have HN := Lib.hid hnow
                  have e1 : ((i : Int) == (i : Int)) = true := by simp
                  have e2 : ((i : Int) != (i : Int)) = false := by simp
                  clear hnow
                  go_wp2_with fail
                  refine (read_at F' db n i s zs wr HDI.out hjn HN.out).mono ?_
                  rintro e w5 ⟨b5, rfl, hr5, hl5, hg5, hb5⟩
                  have B5 := Lib.hid (HBI.out.trans (hb5.mono si))
                  have s5 := hb5.size
                  have HR5 := Lib.hid hr5
                  have HI5 := Lib.hid (HI0.out.trans (hb5.mono HI0.out.size))
                  clear hr5 hb5
                  go_wp2_with fail
                  refine (sameB _ A3 zs zs 32 c3 32 32 true HZ.out HZ.out (by omega) (by omega) (by simp) w5 (good_of_range HR5.out hg5 32 (Nat.le_of_eq HZ.out)) ((hg.below B5.out).good (by omega))).mono ?_
                  rintro e w6 ⟨rfl, hb6⟩
                  have HI6 := Lib.hid (HI5.out.trans (hb6.mono HI5.out.size))
                  clear hb6
                  go_wp2
                  go_roundw
                  case rel => exact ⟨i + 1, by omega, by go_num, HI6.out⟩
                  case measure => simp [intOf]; omega
                · rw [if_neg hij] at hnow
                  have HN := Lib.hid hnow
                  have e1 : ((j : Int) == (i : Int)) = false := by simp; omega
                  have e2 : ((j : Int) != (i : Int)) = true := by simp; omega
                  have hjb : j < bs.length := by rw [HBN.out]; exact hjn
                  have hjb' : (j : Int) < (bs.length : Int) := by omega
                  have hbj : bs[j]? = some bs[j] := List.getElem?_eq_getElem hjb
                  have HBJ := Lib.hid hbj
                  clear hnow hbj
                  generalize bs[j] = bj at *
                  go_wp2_with fail
                  refine (read_at F' db n j s (nowAt st j) wr HDI.out hjn HN.out).mono ?_
                  rintro e w5 ⟨b5, rfl, hr5, hl5, hg5, hb5⟩
                  have B5 := Lib.hid (HBI.out.trans (hb5.mono si))
                  have s5 := hb5.size
                  have HR5 := Lib.hid hr5
                  have HI5 := Lib.hid (HI0.out.trans (hb5.mono HI0.out.size))
                  have HO5 := Lib.hid (HOI.out.below hb5)
                  have hcell : w5.cell? ⟨g, j, none⟩ = some (slV bj) := by
                    have hc := HO5.out.row.cells (g := g) rfl j (slV bj) (by simp [HBJ.out])
                    rwa [Go.WideShapes.add_plain, Nat.zero_add] at hc
                  unfold slV at hcell
                  obtain ⟨r1, _, r3⟩ := HO5.out.rng j bj HBJ.out
                  have HR6 := Lib.hid r3
                  clear hr5 hb5 r3
                  go_wp2_with fail
                  refine (sameB _ _ (nowAt st j) (nowAt st j) 32 32 32 32 true hnl hnl (by omega) (by omega) (by simp) w5 (good_of_range HR5.out hg5 32 (Nat.le_of_eq hnl)) (good_of_range HR6.out r1 32 (Nat.le_of_eq hnl))).mono ?_
                  rintro e w6 ⟨rfl, hb6⟩
                  have HI6 := Lib.hid (HI5.out.trans (hb6.mono HI5.out.size))
                  clear hb6 hcell
                  go_wp2
                  go_roundw
                  case rel => exact ⟨j + 1, by omega, by go_num, HI6.out⟩
                  case measure => simp [intOf]; omega
              · obtain rfl : j = n := by omega
                go_wp2_with fail
                refine (flush_any F' db j s wr HDI.out (by omega)).mono ?_
                rintro e w6 ⟨rfl, hd6, hm6⟩
                have HD6 := Lib.hid hd6
                have HM6 := Lib.hid hm6
                clear hd6 hm6
                go_wp2
                go_roundw
                case rel =>
                  refine ⟨q + 1, flushS s, grow F' wr w6, by omega, by go_num, HD6.out, HNQ.out, by simp [flushS], ?_, HOI.out.moves HM6.out, HBI.out.trans (HM6.out.below si HFQ.out)⟩
                  rintro k (hk | hk)
                  · exact HFQ.out k hk
                  · omega
                case measure => simp [intOf]; omega
          · obtain rfl : q = 2 := by omega
            go_wp2
            go_ret
            exact ⟨rfl, HBQ.out⟩
set_option maxRecDepth 100000 in
set_option maxHeartbeats 1000000 in
theorem reads_any (n : Int) (A : Option Addr) (cs : List CallD) (l c : Nat) (at_ : Int) (A3 : Option Addr) (zs : List Int) (l3 c3 : Nat) (w : World) (h : CallsAt w.heap.size w A cs) (hl : cs.length = l) (hm : l ≤ maxLen) (hz : zs.length = l3) (hg : Good0 w.heap.size w A3 c3 zs) :
    Calls Try.prog 7 #[.int .i64 n, .slice A l c, .int .i64 at_, .slice A3 l3 c3] w fun e w' => e = .returned (.bool true) ∧ Below w.heap.size w w' := by
  have HL := Lib.hid hl
  have HZ := Lib.hid hz
  clear hl hz
  cases hgr : greatB cs with
  | true =>
    have HG := Lib.hid hgr
    clear hgr
    go_enter Try.func7, Try.ntmps7
    go_wp2_with fail
    refine (alive_any w).mono ?_
    rintro e w1 ⟨rfl, b1⟩
    go_wp2_with fail
    refine (great_any A cs l c w.heap.size true w1 (h.below b1) HL.out hm HG.out).mono ?_
    rintro e w1' ⟨rfl, rfl⟩
    go_wp2
    go_ret
    exact ⟨rfl, b1⟩
  | false =>
    have HG := Lib.hid hgr
    clear hgr
    by_cases h1 : n < 1
    · have d1 : decide (n < 1) = true := by simpa using h1
      go_enter Try.func7, Try.ntmps7
      go_wp2_with fail
      refine (alive_any w).mono ?_
      rintro e w1 ⟨rfl, b1⟩
      go_wp2_with fail
      refine (great_any A cs l c w.heap.size false w1 (h.below b1) HL.out hm HG.out).mono ?_
      rintro e w1' ⟨rfl, rfl⟩
      go_wp2
      go_ret
      exact ⟨rfl, b1⟩
    by_cases h2 : 40 < n
    · have d2 : decide (40 < n) = true := by simpa using h2
      have d1 : decide (n < 1) = false := by simp; omega
      go_enter Try.func7, Try.ntmps7
      go_wp2_with fail
      refine (alive_any w).mono ?_
      rintro e w1 ⟨rfl, b1⟩
      go_wp2_with fail
      refine (great_any A cs l c w.heap.size false w1 (h.below b1) HL.out hm HG.out).mono ?_
      rintro e w1' ⟨rfl, rfl⟩
      go_wp2
      go_ret
      exact ⟨rfl, b1⟩
    by_cases h5 : l3 ≠ 32
    · have d5 : ((l3 : Int) != 32) = true := by simp; omega
      have d1 : decide (n < 1) = false := by simp; omega
      have d2 : decide (40 < n) = false := by simp; omega
      go_enter Try.func7, Try.ntmps7
      go_wp2_with fail
      refine (alive_any w).mono ?_
      rintro e w1 ⟨rfl, b1⟩
      go_wp2_with fail
      refine (great_any A cs l c w.heap.size false w1 (h.below b1) HL.out hm HG.out).mono ?_
      rintro e w1' ⟨rfl, rfl⟩
      go_wp2
      go_ret
      exact ⟨rfl, b1⟩
    obtain ⟨k, rfl⟩ := Int.eq_ofNat_of_zero_le (show 0 ≤ n by omega)
    obtain rfl : l3 = 32 := by omega
    exact reads_body k A cs l c at_ A3 zs c3 w (by omega) (by omega) h HL.out hm HG.out HZ.out hg
end Go.Proofs.Ytckkgcogkcljeaa
