/- The document's own table: Ask. -/
import Derived.Test.YtnfodidfhnofkaaIi
import Derived.Deep.CutBlock
namespace Go.Proofs.Ytnfodidfhnofkaa
open Go.RowKit Go.Deep Go.Maps Go.Lib

theorem ERow.addr {α : Type} {E : Elt α} {B n c : Nat} {w : World} {A : Option Addr} {l : List α} (h : ERow E B w (.slice A n c) l) : (A = none ∧ c = 0) ∨ ∃ g, A = some ⟨g, 0, none⟩ := by
  rcases h.2 with ⟨e, h0⟩ | ⟨g, cap, cur, e, _⟩
  · simp only [Value.slice.injEq] at e
    exact .inl ⟨e.1, e.2.2⟩
  · simp only [Value.slice.injEq] at e
    exact .inr ⟨g, e.1⟩
theorem howQ_cases : ∀ (l : List RHold) (tx : Int) (k : KeyT), howQ l tx k = 0 ∨ howQ l tx k = 1 ∨ howQ l tx k = 2
  | [], _, _ => .inl rfl
  | h :: l, tx, k => by
    unfold howQ
    split
    · cases h.ex
      · exact .inr (.inl rfl)
      · exact .inr (.inr rfl)
    · exact howQ_cases l tx k
theorem askQ_bad {rs : RS} {tx : Int} {k : KeyT} {ex : Bool} {now : Int} (h : badAsk tx now = true) : askQ rs tx k ex now = (rs, 11) := by unfold askQ; rw [if_pos h]
theorem askQ_low {rs : RS} {tx : Int} {k : KeyT} {ex : Bool} {now : Int} (h : badAsk tx now = false) (hl : wantN ex ≤ howQ rs.holds tx k) : askQ rs tx k ex now = (rs, 0) := by unfold askQ; rw [h, if_pos hl]; rfl
theorem askQ_waits {rs : RS} {tx : Int} {k k' : KeyT} {ex : Bool} {now : Int} (h : badAsk tx now = false) (hl : ¬ wantN ex ≤ howQ rs.holds tx k) (hw : waitsQ rs.queue tx = some k') : askQ rs tx k ex now = (rs, if k' = k then 17 else 13) := by unfold askQ; rw [h, if_neg hl, hw]; rfl
theorem askQ_grant {rs : RS} {tx : Int} {k : KeyT} {ex ri : Bool} {now : Int} (h : badAsk tx now = false) (hl : ¬ wantN ex ≤ howQ rs.holds tx k) (hw : waitsQ rs.queue tx = none) (hr : decide (howQ rs.holds tx k = 1) = ri) (hg : (mayQ rs.holds ⟨tx, k, ex, now, ri⟩ && (aloneQ rs.queue k || ri)) = true) : askQ rs tx k ex now = ({ rs with holds := grantQ rs.holds ⟨tx, k, ex, now, ri⟩ }, 0) := by
  unfold askQ
  rw [h, if_neg hl, hw]
  simp only [Bool.false_eq_true, if_false]
  rw [hr, hg]
  simp
theorem askQ_queue {rs : RS} {tx : Int} {k : KeyT} {ex ri : Bool} {now : Int} (h : badAsk tx now = false) (hl : ¬ wantN ex ≤ howQ rs.holds tx k) (hw : waitsQ rs.queue tx = none) (hr : decide (howQ rs.holds tx k = 1) = ri) (hg : (mayQ rs.holds ⟨tx, k, ex, now, ri⟩ && (aloneQ rs.queue k || ri)) = false) : askQ rs tx k ex now = ({ rs with queue := rs.queue.take (atQ rs.queue ri) ++ ⟨tx, k, ex, now, ri⟩ :: rs.queue.drop (atQ rs.queue ri) }, 17) := by
  unfold askQ
  rw [h, if_neg hl, hw]
  simp only [Bool.false_eq_true, if_false]
  rw [hr, hg]
  simp
theorem all_take_succ {l : List RHold} {j : Nat} {y : RHold} (hy : l[j]? = some y) (p : RHold → Bool) : (l.take (j + 1)).all p = ((l.take j).all p && p y) := by
  rw [take_snoc hy, List.all_append]
  simp
/-- A table whose blocks are G, come from w, where they were F. -/
structure TA (w w' : World) (F G : Nat → Prop) (tb m : Nat) (rs : RS) : Prop where
  at_ : RefAt w' G tb m rs
  low : ∀ b, G b → F b ∨ w.heap.size ≤ b
  mv : Moves F w w'
theorem TA.start {w : World} {F : Nat → Prop} {tb m : Nat} {rs : RS} (h : RefAt w F tb m rs) : TA w w F F tb m rs := ⟨h, fun _ hb => .inl hb, Moves.refl _ _⟩
theorem TA.still {w0 w w' : World} {F G : Nat → Prop} {tb m : Nat} {rs : RS} (h : TA w0 w F G tb m rs) (hb : Below w.heap.size w w') : TA w0 w' F G tb m rs := ⟨h.at_.below hb, h.low, h.mv.trans (moves_of_below (F := F) hb) fun _ e => .inl e⟩
theorem TA.step {w0 w w' : World} {F G : Nat → Prop} {tb m m' : Nat} {rs rs' : RS} (h : TA w0 w F G tb m rs) (h1 : RefAt w' (grow G w w') tb m' rs') (h2 : Moves G w w') : TA w0 w' F (grow G w w') tb m' rs' :=
  ⟨h1, fun b hb => hb.elim (h.low b) (fun e => .inr (Nat.le_trans h.mv.size e.1)), h.mv.trans h2 h.low⟩
theorem TA.does {w w' : World} {F G : Nat → Prop} {tb m : Nat} {rs : RS} {v : Value} (h : TA w w' F G tb m rs) (hl : ∀ b, F b → b < w.heap.size) : RefDoes F tb m rs v w (.returned v) w' :=
  ⟨rfl, h.at_.more (fun b hb => (h.low b hb).imp id fun e => ⟨e, h.at_.lt b hb⟩) fun b hb => hb.elim (fun e => Nat.lt_of_lt_of_le (hl b e) h.mv.size) (·.2), h.mv⟩
set_option maxRecDepth 100000 in
set_option maxHeartbeats 8000000 in
theorem refAsk_any (F : Nat → Prop) (tb m : Nat) (rs : RS) (tx now : Int) (k : KeyT) (ex : Bool) (w : World) (h : RefAt w F tb m rs) (hm : m ≤ 900) :
    Calls Try.prog 14 #[.pointer (some ⟨tb, 0, none⟩), .int .i64 tx, KV k, .bool ex, .int .i64 now] w (RefDoes F tb (m + 1) (askQ rs tx k ex now).1 (.int .i64 (askQ rs tx k ex now).2) w) := by
  have HLT := Lib.hid h.lt
  have HT := Lib.hid h
  have hbV : Below w.heap.size w (w.alloc (.cells #[.int .u8 (k.a.val : Int), .int .u8 (k.b.val : Int), .int .u8 (k.c.val : Int), .int .u8 (k.d.val : Int)] 24)) := (Below.refl _ w).alloc (Nat.le_refl _) _
  have hkV : KeyC (w.alloc (.cells #[.int .u8 (k.a.val : Int), .int .u8 (k.b.val : Int), .int .u8 (k.c.val : Int), .int .u8 (k.d.val : Int)] 24)) w.heap.size k := heap_alloc_new w _
  have HEARLY := Lib.hid (show ∀ W, Below w.heap.size w W → ∀ r, RefDoes F tb (m + 1) rs (.int .i64 r) w (.returned (.int .i64 r)) W from fun W hb r => (((Tr.start h).still hb).mono (Nat.le_succ m)).does (Below.refl _ _) h.lt)
  clear h
  obtain ⟨rs', r', hask⟩ : ∃ rs' r', askQ rs tx k ex now = (rs', r') := ⟨_, _, rfl⟩
  have HASK := Lib.hid hask
  rw [hask]
  clear hask
  rw [KV_def]
  cases d1 : decide (tx < 1) with
  | true =>
    have hbad : badAsk tx now = true := by simp [badAsk, d1]
    have he := HASK.out
    rw [askQ_bad hbad] at he
    cases he
    clear hbad
    go_enter Try.func14, Try.ntmps14
    go_wp2
    go_ret
    exact HEARLY.out _ hbV 11
  | false =>
    cases d2 : decide (1048576 < tx) with
    | true =>
      have hbad : badAsk tx now = true := by simp [badAsk, d2]
      have he := HASK.out
      rw [askQ_bad hbad] at he
      cases he
      clear hbad
      go_enter Try.func14, Try.ntmps14
      go_wp2
      go_ret
      exact HEARLY.out _ hbV 11
    | false =>
      cases d3 : decide (now < 0) with
      | true =>
        have hbad : badAsk tx now = true := by simp [badAsk, d3]
        have he := HASK.out
        rw [askQ_bad hbad] at he
        cases he
        clear hbad
        go_enter Try.func14, Try.ntmps14
        go_wp2
        go_ret
        exact HEARLY.out _ hbV 11
      | false =>
        cases d4 : decide (1099511627776 < now) with
        | true =>
          have hbad : badAsk tx now = true := by simp [badAsk, d4]
          have he := HASK.out
          rw [askQ_bad hbad] at he
          cases he
          clear hbad
          go_enter Try.func14, Try.ntmps14
          go_wp2
          go_ret
          exact HEARLY.out _ hbV 11
        | false =>
          have HBAD := Lib.hid (show badAsk tx now = false by simp [badAsk, d1, d2, d3, d4])
          go_enter Try.func14, Try.ntmps14
          go_wp2_with fail
          generalize (w.alloc (.cells #[.int .u8 (k.a.val : Int), .int .u8 (k.b.val : Int), .int .u8 (k.c.val : Int), .int .u8 (k.d.val : Int)] 24)) = V at *
          have HBV := Lib.hid hbV
          have HKV := Lib.hid hkV
          have HTV := Lib.hid (HT.out.below hbV)
          clear hbV hkV
          obtain ⟨q, hq⟩ : ∃ q, howQ rs.holds tx k = q := ⟨_, rfl⟩
          have hqc := howQ_cases rs.holds tx k
          rw [hq] at hqc
          have HQ := Lib.hid hq
          have hhow := refHow_any F tb m rs tx q k V HTV.out (by omega) hq
          rw [KV_def] at hhow
          clear hq
          refine hhow.mono ?_
          rintro e w1 ⟨rfl, hb1⟩
          have HB1 := Lib.hid (HBV.out.trans (hb1.mono HBV.out.size))
          have HK1 := Lib.hid (HKV.out.still hb1)
          clear hhow hb1
          by_cases hlow : wantN ex ≤ q
          · have he := HASK.out
            rw [askQ_low HBAD.out (by rw [HQ.out]; exact hlow)] at he
            cases he
            rcases hqc with rfl | rfl | rfl
            · exact absurd hlow (by cases ex <;> decide)
            · cases ex with
              | true => exact absurd hlow (by decide)
              | false =>
                clear hlow
                go_wp2_with fail
                go_ret
                exact HEARLY.out _ HB1.out 0
            · clear hlow
              go_wp2_with fail
              go_ret
              exact HEARLY.out _ HB1.out 0
          · have HLOW := Lib.hid (show ¬ wantN ex ≤ howQ rs.holds tx k by rw [HQ.out]; exact hlow)
            have hq2 : (q == 2) = false := by
              rcases hqc with rfl | rfl | rfl
              · rfl
              · rfl
              · exact absurd (by cases ex <;> decide) hlow
            have hq1 : ((q == 1) && !ex) = false := by
              rcases hqc with rfl | rfl | rfl
              · rfl
              · cases ex with
                | true => rfl
                | false => exact absurd (by decide) hlow
              · rfl
            obtain ⟨ri, hri⟩ : ∃ ri, (q == 1) = ri := ⟨_, rfl⟩
            rw [hri] at hq1
            have HRI := Lib.hid (show decide (howQ rs.holds tx k = 1) = ri by rw [HQ.out, ← hri]; rfl)
            clear hlow hqc
            obtain ⟨o, ho⟩ : ∃ o, waitsQ rs.queue tx = o := ⟨_, rfl⟩
            have HO := Lib.hid ho
            have hw := refWaits_any F tb m rs tx o w1 (HT.out.below HB1.out) (by omega) ho
            rw [KV_def] at hw
            obtain ⟨kk, hkk⟩ : ∃ kk, keyQ o = kk := ⟨_, rfl⟩
            rw [hkk] at hw
            have HKK := Lib.hid hkk
            clear ho hkk
            go_upto_region 4 with fail
            go_cut [46] from 37 to 45 (fun s46 wx => s46 = .bool false ∧ w1 = wx)
            case first =>
              cases ri with
              | true =>
                have hex : ex = true := by cases ex <;> simp_all
                subst hex
                go_wp2
                go_meet
                exact ⟨rfl, rfl⟩
              | false =>
                go_wp2
                go_meet
                exact ⟨rfl, rfl⟩
            case rest =>
              obtain ⟨rfl, rfl⟩ := hcut
              have HRIQ := Lib.hid hri
              clear hq2 hq1
              go_wp2_with fail
              refine hw.mono ?_
              rintro e w2 ⟨rfl, hb2⟩
              have HB2 := Lib.hid (HB1.out.trans (hb2.mono HB1.out.size))
              have HK2 := Lib.hid (HK1.out.still hb2)
              clear hw hb2
              have hbO : Below w2.heap.size w2 (w2.alloc (.cells #[.int .u8 (kk.a.val : Int), .int .u8 (kk.b.val : Int), .int .u8 (kk.c.val : Int), .int .u8 (kk.d.val : Int)] 24)) := (Below.refl _ w2).alloc (Nat.le_refl _) _
              have hkO : KeyC (w2.alloc (.cells #[.int .u8 (kk.a.val : Int), .int .u8 (kk.b.val : Int), .int .u8 (kk.c.val : Int), .int .u8 (kk.d.val : Int)] 24)) w2.heap.size kk := heap_alloc_new w2 _
              obtain ⟨ok, hok⟩ : ∃ ok, o.isSome = ok := ⟨_, rfl⟩
              rw [hok]
              have HOK := Lib.hid hok
              clear hok
              go_upto_region 7 with fail
              generalize (w2.alloc (.cells #[.int .u8 (kk.a.val : Int), .int .u8 (kk.b.val : Int), .int .u8 (kk.c.val : Int), .int .u8 (kk.d.val : Int)] 24)) = O at *
              have HBO := Lib.hid (HB2.out.trans (hbO.mono HB2.out.size))
              have HKO := Lib.hid (HK2.out.still hbO)
              obtain ⟨k0, k1, k2, k3⟩ := HKO.out.cells
              have hkl := HKO.out.lt
              obtain ⟨o0, o1, o2, o3⟩ := hkO.cells
              have hol := hkO.lt
              clear hbO hkO
              cases ok with
              | true =>
                have ho : o = some kk := by
                  have h1 := HKK.out
                  have h2 := HOK.out
                  cases ho : o with
                  | none => rw [ho] at h2; cases h2
                  | some k' => rw [ho] at h1; rw [← h1]; rfl
                have he := HASK.out
                rw [askQ_waits HBAD.out (by have := HLOW.out; omega) (HO.out.trans ho)] at he
                have heq := fun W => run_eqlKey kk k W
                simp only [KV_def] at heq
                clear ho
                by_cases hkk : kk = k
                · have e1 : decide (kk = k) = true := decide_eq_true hkk
                  simp only [e1] at heq
                  rw [if_pos hkk] at he
                  cases he
                  clear hkk e1
                  go_wp2_with fail
                  go_ret
                  exact HEARLY.out _ HBO.out 17
                · have e1 : decide (kk = k) = false := decide_eq_false hkk
                  simp only [e1] at heq
                  rw [if_neg hkk] at he
                  cases he
                  clear hkk e1
                  go_wp2_with fail
                  go_ret
                  exact HEARLY.out _ HBO.out 13
              | false =>
                have HON := Lib.hid (show waitsQ rs.queue tx = none by
                  have h2 := HOK.out
                  rw [HO.out]
                  cases ho : o with
                  | none => rfl
                  | some k' => rw [ho] at h2; cases h2)
                clear o0 o1 o2 o3 hol
                obtain ⟨x, hx⟩ : ∃ x : RHold, x = ⟨tx, k, ex, now, ri⟩ := ⟨_, rfl⟩
                have HXE := Lib.hid hx
                go_upto_region 12 with fail
                change Code.wp _ _ _ _ (O.alloc (holdO ⟨tx, k, ex, now, ri⟩))
                rw [← hx]
                have hbX : Below O.heap.size O (O.alloc (holdO x)) := (Below.refl _ O).alloc (Nat.le_refl _) _
                have hxX := HoldC.new O x
                generalize (O.alloc (holdO x)) = X at *
                have HBX := Lib.hid (HBO.out.trans (hbX.mono HBO.out.size))
                have HKX := Lib.hid (HKO.out.still hbX)
                have HXX := Lib.hid hxX
                clear hbX hxX k0 k1 k2 k3 hkl hx
                have HTX := Lib.hid (HT.out.below HBX.out)
                obtain ⟨hv, qv, hi⟩ := HTX.out
                obtain ⟨A, N, c, rfl, hn⟩ := ERow.sliceN (E := eltQ) hi.qrow
                have HI := Lib.hid hi
                have HN := Lib.hid (show rs.queue.length = N from hn.symm)
                have hNm : N ≤ 900 := by have := hi.len; omega
                clear hi hn
                go_wp2_with fail
                go_loopg [15, 16] N (fun gg s15 s16 wq => ∃ j : Nat, j ≤ N ∧ N - j ≤ gg ∧ s15 = .bool ((rs.queue.take j).all fun h => !(ofKey k h)) ∧ s16 = .int .i64 j ∧ Hid (Below X.heap.size X wq))
                case atStart => exact ⟨0, Nat.zero_le _, by omega, by rw [List.take_zero]; rfl, rfl, Lib.hid (Below.refl _ _)⟩
                case round =>
                  obtain ⟨j, hj, hgj, rfl, rfl, HB⟩ := hrel
                  have c2 := (HI.out.below HB.out).c2
                  have tl := (HI.out.below HB.out).tbl
                  by_cases hjl : j < N
                  · have hjz : (j : Int) < (N : Int) := by omega
                    obtain ⟨y, hy⟩ : ∃ y, rs.queue[j]? = some y := ⟨_, List.getElem?_eq_getElem (by have := HN.out; omega)⟩
                    obtain ⟨g, rfl, -, hgl, hNc⟩ := (HI.out.below HB.out).qrow.at (by have := HN.out; omega)
                    obtain ⟨y0, y1, y2, y3, y4, y5, y6, y7⟩ := (HI.out.below HB.out).qrow.cells hy
                    obtain ⟨k0, k1, k2, k3⟩ := (HKX.out.still HB.out).cells
                    have hkl := (HKX.out.still HB.out).lt
                    have HSU := Lib.hid (all_take_succ hy fun h => !(ofKey k h))
                    have heq := fun W => run_neqKey y.key k W
                    simp only [KV_def] at heq
                    obtain ⟨qk, hqk⟩ : ∃ qk, decide (y.key = k) = qk := ⟨_, rfl⟩
                    simp only [hqk] at heq
                    have HSV := Lib.hid (show ((rs.queue.take (j + 1)).all fun h => !(ofKey k h)) = (((rs.queue.take j).all fun h => !(ofKey k h)) && !qk) by rw [HSU.out]; unfold ofKey; rw [hqk])
                    obtain ⟨al, hal⟩ : ∃ al, ((rs.queue.take j).all fun h => !(ofKey k h)) = al := ⟨_, rfl⟩
                    rw [hal] at HSV ⊢
                    clear hy hqk hal HSU
                    cases al with
                    | true =>
                      go_wp2_with fail
                      go_quiet (fail)
                      go_wp2_with fail
                      go_roundg (N - (j + 1))
                      case measure => omega
                      case rel => exact ⟨j + 1, by omega, by omega, by rw [HSV.out]; rfl, by go_num, Lib.hid (HB.out.trans ((below_drewN (Below.refl _ wr) _).mono HB.out.size))⟩
                    | false =>
                      clear heq
                      go_wp2_with fail
                      go_quiet (fail)
                      go_wp2_with fail
                      go_roundg (N - (j + 1))
                      case measure => omega
                      case rel => exact ⟨j + 1, by omega, by omega, by rw [HSV.out]; rfl, by go_num, Lib.hid (HB.out.trans ((below_drewN (Below.refl _ wr) _).mono HB.out.size))⟩
                  · obtain rfl : j = N := by omega
                    have hall : ((rs.queue.take j).all fun h => !(ofKey k h)) = aloneQ rs.queue k := by
                      rw [List.take_of_length_le (by have := HN.out; omega)]
                      rfl
                    rw [hall]
                    clear hall
                    obtain ⟨al, hal⟩ : ∃ al, aloneQ rs.queue k = al := ⟨_, rfl⟩
                    rw [hal]
                    have HAL := Lib.hid hal
                    clear hal
                    obtain ⟨b, hb⟩ : ∃ b, mayQ rs.holds x = b := ⟨_, rfl⟩
                    have hmay := refMay_any F tb m rs x b wr (HTX.out.below HB.out) (by omega) hb
                    rw [HQ_def] at hmay
                    have HMB := Lib.hid hb
                    obtain ⟨z0, z1, z2, z3, z4, z5, z6, z7⟩ := (HXX.out.still HB.out).cells
                    have hzl := (HXX.out.still HB.out).lt
                    have hzri : x.rises = ri := by rw [HXE.out]
                    have HZR := Lib.hid hzri
                    clear hb hzri
                    obtain ⟨wo, rfl⟩ : ∃ wo, wo = wr := ⟨_, rfl⟩
                    go_upto_region 17 with fail
                    go_cut [98] from 89 to 97 (fun s98 wx => ∃ gr : Bool, s98 = .bool gr ∧ Hid ((b && (al || ri)) = gr) ∧ Hid (Below X.heap.size X wx))
                    case first =>
                      go_wp2_with fail
                      refine hmay.mono ?_
                      rintro e w5 ⟨rfl, hb5⟩
                      have HB5 := Lib.hid (HB.out.trans (hb5.mono HB.out.size))
                      have u7 := (HXX.out.still HB5.out).cells.2.2.2.2.2.2.2
                      rw [HZR.out] at u7
                      have hul := (HXX.out.still HB5.out).lt
                      clear hmay hb5 z0 z1 z2 z3 z4 z5 z6 z7 hzl c2 tl
                      cases b with
                      | false =>
                        go_wp2_with fail
                        go_meet
                        exact ⟨false, rfl, Lib.hid rfl, HB5⟩
                      | true =>
                        cases al with
                        | true =>
                          go_wp2_with fail
                          go_meet
                          exact ⟨true, rfl, Lib.hid rfl, HB5⟩
                        | false =>
                          go_wp2_with fail
                          go_meet
                          exact ⟨ri, rfl, Lib.hid rfl, HB5⟩
                    case rest =>
                      obtain ⟨gr, rfl, HGR, HBc⟩ := hcut
                      obtain ⟨wa, rfl⟩ : ∃ wa, wa = wc := ⟨_, rfl⟩
                      clear hmay z0 z1 z2 z3 z4 z5 z6 z7 hzl c2 tl
                      have HBw := Lib.hid (HBX.out.trans (HBc.out.mono HBX.out.size))
                      have hlow : ¬ wantN ex ≤ howQ rs.holds tx k := by have := HLOW.out; omega
                      cases gr with
                      | true =>
                        have he := HASK.out
                        rw [askQ_grant HBAD.out hlow HON.out HRI.out (by rw [← HXE.out, HMB.out, HAL.out]; exact HGR.out), ← HXE.out] at he
                        cases he
                        have hgr := refGrant_any F tb m rs x wa (HT.out.below HBw.out) (by omega)
                        rw [HQ_def] at hgr
                        obtain ⟨z0, z1, z2, z3, z4, z5, z6, z7⟩ := (HXX.out.still HBc.out).cells
                        have hzl := (HXX.out.still HBc.out).lt
                        clear hlow
                        go_wp2_with fail
                        refine hgr.mono ?_
                        rintro e w7 ⟨rfl, r1, r2⟩
                        have T1 := Lib.hid (((TA.start HT.out).still HBw.out).step r1 r2)
                        clear hgr r1 r2 z0 z1 z2 z3 z4 z5 z6 z7 hzl
                        go_wp2_with fail
                        go_ret
                        exact T1.out.does HLT.out
                      | false =>
                        have he := HASK.out
                        rw [askQ_queue HBAD.out hlow HON.out HRI.out (by rw [← HXE.out, HMB.out, HAL.out]; exact HGR.out), ← HXE.out] at he
                        cases he
                        clear hlow
                        have c2 := (HI.out.below HBc.out).c2
                        have tl := (HI.out.below HBc.out).tbl
                        obtain ⟨z0, z1, z2, z3, z4, z5, z6, z7⟩ := (HXX.out.still HBc.out).cells
                        have hzl := (HXX.out.still HBc.out).lt
                        rw [HZR.out] at z7
                        go_upto_if 108 with fail
                        go_cut [17] from 109 to 127 (fun s17 wx => ∃ p : Nat, s17 = .int .i64 p ∧ p ≤ j ∧ Hid (atQ rs.queue ri = p) ∧ wa = wx)
                        case first =>
                          cases ri with
                          | false =>
                            have HAT := Lib.hid (show atQ rs.queue false = j from HN.out)
                            go_wp2_with fail
                            go_meet
                            exact ⟨j, rfl, Nat.le_refl _, HAT, rfl⟩
                          | true =>
                            go_wp2_with fail
                            go_loopg [17] j (fun gg s17 wq => ∃ t : Nat, t ≤ j ∧ j - t ≤ gg ∧ s17 = .int .i64 t ∧ Hid (placeOf (fun h => !h.rises) rs.queue = t + placeOf (fun h => !h.rises) (rs.queue.drop t)) ∧ wa = wq)
                            case atStart => exact ⟨0, Nat.zero_le _, by omega, rfl, Lib.hid (by rw [List.drop_zero, Nat.zero_add]), rfl⟩
                            case round =>
                              obtain ⟨t, ht, hgt, rfl, HP, rfl⟩ := hrel
                              by_cases htl : t < j
                              · have htz : (t : Int) < (j : Int) := by omega
                                obtain ⟨y, hy⟩ : ∃ y, rs.queue[t]? = some y := ⟨_, List.getElem?_eq_getElem (by have := HN.out; omega)⟩
                                obtain ⟨g, rfl, -, hgl, hNc⟩ := (HI.out.below HBc.out).qrow.at (by have := HN.out; omega)
                                obtain ⟨y0, y1, y2, y3, y4, y5, y6, y7⟩ := (HI.out.below HBc.out).qrow.cells hy
                                have hd := placeOf_at (p := fun h : RHold => !h.rises) hy
                                obtain ⟨yr, hyr⟩ : ∃ yr, y.rises = yr := ⟨_, rfl⟩
                                rw [hyr] at y7 hd
                                have HD := Lib.hid hd
                                clear hy hd hyr
                                cases yr with
                                | true =>
                                  go_wp2_with fail
                                  go_roundg (j - (t + 1))
                                  case measure => omega
                                  case rel => exact ⟨t + 1, by omega, by omega, by go_num, Lib.hid (by have h1 := HP.out; have h2 := HD.out; rw [h1, h2]; simp; omega), rfl⟩
                                | false =>
                                  go_wp2_with fail
                                  go_meet
                                  exact ⟨t, rfl, ht, Lib.hid (by have h1 := HP.out; have h2 := HD.out; show placeOf _ _ = t; rw [h1, h2]; rfl), rfl⟩
                              · obtain rfl : t = j := by omega
                                go_wp2_with fail
                                go_meet
                                exact ⟨t, rfl, Nat.le_refl _, Lib.hid (by have h1 := HP.out; rw [List.drop_eq_nil_of_le (by have := HN.out; omega)] at h1; exact h1), rfl⟩
                        case rest =>
                          obtain ⟨p, rfl, hp, HAT, rfl⟩ := hcut
                          have hszc := HBc.out.size
                          have HMD2 := Lib.hid (show ERow eltQ X.heap.size (wa.alloc (.cells #[] 74)) (.slice (some ⟨wa.heap.size, 0, none⟩) 0 0) [] from ERow.made eltQ X.heap.size wa hszc)
                          have HBM := Lib.hid (HBc.out.alloc hszc (.cells #[] 74))
                          have HDL := Lib.hid (show (rs.queue.drop p).length = j - p by rw [List.length_drop, HN.out])
                          have hpz : (p : Int) ≤ (j : Int) := by omega
                          have hjc : j ≤ c := by have h1 := (ERow.cap (E := eltQ) HI.out.qrow).2.1; have := HN.out; omega
                          have hpc : (p : Int) ≤ (c : Int) := by omega
                          go_upto_region 25 with fail
                          go_cut [18] from 128 to 135 (fun s18 wx => Hid (ERow eltQ X.heap.size wx s18 (rs.queue.drop p)) ∧ Hid (Below X.heap.size X wx))
                          case first =>
                            have hin0 := ERow.in_all (E := eltQ) (HI.out.below HBM.out).qrow
                            have HNIL := Lib.hid (show A = none → c - p = 0 from fun e => by have := (ERow.cap (E := eltQ) HI.out.qrow).1 e; omega)
                            have HNIL0 := Lib.hid (show A = none → 0 = 0 from fun _ => rfl)
                            rcases ERow.addr (E := eltQ) HI.out.qrow with ⟨hA, hc0⟩ | ⟨g, hA⟩
                            · subst hA hc0
                              obtain rfl : j = 0 := by omega
                              obtain rfl : p = 0 := by omega
                              have HDZ := Lib.hid (show (rs.queue.drop 0).length = 0 by rw [HDL.out])
                              have HE := Lib.hid (show EIn eltQ (wa.alloc (.cells #[] 74)) none (rs.queue.drop 0) from .inl (List.eq_nil_of_length_eq_zero HDZ.out))
                              clear hin0
                              go_wp2_with (first
                                | (at_builtin; refine wpList_appendE eltQ _ rfl _ _ rfl X.heap.size _ [] rfl HMD2.out none (rs.queue.drop 0) 0 0 rfl HDZ.out HE.out (fun _ => rfl) (by rw [List.length_nil]; omega) HBM.out.size ?_; intro v' w' hown hgrow hat)
                                | fail)
                              go_meet
                              exact ⟨Lib.hid (by rw [List.nil_append] at hown; exact hown), Lib.hid (HBM.out.grown hgrow HBM.out.size (fun k e => (HMD2.out.lt k e).1))⟩
                            · subst hA
                              by_cases hc : c = p
                              · subst hc
                                obtain rfl : j = c := by omega
                                have HDZ := Lib.hid (show (rs.queue.drop j).length = 0 by rw [HDL.out]; omega)
                                have HE := Lib.hid (show EIn eltQ (wa.alloc (.cells #[] 74)) (some ⟨g, 0, none⟩) (rs.queue.drop j) from .inl (List.eq_nil_of_length_eq_zero HDZ.out))
                                have hle : (j : Int) ≤ (j : Int) := Int.le_refl _
                                clear hin0
                                go_wp2_with (first
                                  | (at_builtin; refine wpList_appendE eltQ _ rfl _ _ rfl X.heap.size _ [] rfl HMD2.out (some ⟨g, 0, none⟩) (rs.queue.drop j) 0 0 rfl HDZ.out HE.out (fun e => by cases e) (by rw [List.length_nil]; omega) HBM.out.size ?_; intro v' w' hown hgrow hat)
                                  | fail)
                                go_meet
                                exact ⟨Lib.hid (by rw [List.nil_append] at hown; exact hown), Lib.hid (HBM.out.grown hgrow HBM.out.size (fun k e => (HMD2.out.lt k e).1))⟩
                              · have HE := Lib.hid (show EIn eltQ (wa.alloc (.cells #[] 74)) (some ⟨g, p * 8, none⟩) (rs.queue.drop p) by have := hin0.drop p; rw [Nat.zero_add] at this; exact this)
                                clear hin0
                                go_wp2_with (first
                                  | (at_builtin; refine wpList_appendE eltQ _ rfl _ _ rfl X.heap.size _ [] rfl HMD2.out (some ⟨g, p * 8, none⟩) (rs.queue.drop p) (j - p) (c - p) rfl HDL.out HE.out (fun e => by cases e) (by rw [List.length_nil]; omega) HBM.out.size ?_; intro v' w' hown hgrow hat)
                                  | fail)
                                go_meet
                                exact ⟨Lib.hid (by rw [List.nil_append] at hown; exact hown), Lib.hid (HBM.out.grown hgrow HBM.out.size (fun k e => (HMD2.out.lt k e).1))⟩
                          case rest =>
                            obtain ⟨HR18, HBd⟩ := hcut
                            obtain ⟨W, rfl⟩ : ∃ W, W = wc := ⟨_, rfl⟩
                            obtain ⟨A18, n18, c18, rfl, hn18⟩ := ERow.sliceN HR18.out
                            have HN18 := Lib.hid (show (rs.queue.drop p).length = n18 from hn18.symm)
                            have hn18b : n18 ≤ 900 := by have := HN18.out; rw [HDL.out] at this; omega
                            have HNIL18 := Lib.hid (HR18.out.cap.1)
                            clear hn18 c2 tl z0 z1 z2 z3 z4 z5 z6 z7 hzl
                            have HIW := Lib.hid (HI.out.below HBd.out)
                            have c2 := HIW.out.c2
                            have tl := HIW.out.tbl
                            have f0 : W.frozen? ⟨tb, 2, none⟩ = false := by
                              have := HIW.out.blk
                              simp [World.frozen?, this]
                            obtain ⟨z0, z1, z2, z3, z4, z5, z6, z7⟩ := (HXX.out.still HBd.out).cells
                            have hzl := (HXX.out.still HBd.out).lt
                            have HE1 := Lib.hid (show ∀ W', Below W.heap.size W W' → EIn eltQ W' A (rs.queue.take p) from fun W' hb => ((ERow.in_all (E := eltQ) (HIW.out.qrow.below hb))).take p)
                            have HLT1 := Lib.hid (show (rs.queue.take p).length = p by rw [List.length_take, HN.out]; omega)
                            have hsx : ∀ o : Obj, (W.alloc o).heap.size = W.heap.size + 1 := fun o => by simp
                            have hal1 : ∀ o : Obj, Below W.heap.size W (W.alloc o) := fun o => (Below.refl _ W).alloc (Nat.le_refl _) _
                            have hal2 : ∀ o o' : Obj, Below W.heap.size W ((W.alloc o).alloc o') := fun o o' => (hal1 o).alloc (hal1 o).size _
                            have HB8a := Lib.hid (show Below W.heap.size W (W.alloc (.cells #[] 74)).drew from below_drewN (hal1 _) 1)
                            have HB8b := Lib.hid (show Below W.heap.size W ((W.alloc (.cells #[] 74)).alloc (.cells (eltQ.enc x).toArray 74)).drew from below_drewN (hal2 _ _) 1)
                            have HB8c := Lib.hid (show Below W.heap.size W ((W.alloc (.cells (eltQ.enc x).toArray 74)).alloc (.cells #[] 74)).drew from below_drewN (hal2 _ _) 1)
                            have HMa := Lib.hid (show ERow eltQ W.heap.size (W.alloc (.cells #[] 74)).drew (.slice (some ⟨W.heap.size, 0, none⟩) 0 0) [] from (ERow.made eltQ W.heap.size W (Nat.le_refl _)).below (below_drewN (Below.refl _ _) 1))
                            have HMb := Lib.hid (show ERow eltQ W.heap.size ((W.alloc (.cells #[] 74)).alloc (.cells (eltQ.enc x).toArray 74)).drew (.slice (some ⟨W.heap.size, 0, none⟩) 0 0) [] from (ERow.made eltQ W.heap.size W (Nat.le_refl _)).below (below_drewN ((Below.refl _ _).alloc (Nat.le_refl _) _) 1))
                            have HMc := Lib.hid (show ERow eltQ W.heap.size ((W.alloc (.cells (eltQ.enc x).toArray 74)).alloc (.cells #[] 74)).drew (.slice (some ⟨W.heap.size + 1, 0, none⟩) 0 0) [] from by rw [← hsx (.cells (eltQ.enc x).toArray 74)]; exact (ERow.made eltQ W.heap.size (W.alloc (.cells (eltQ.enc x).toArray 74)) (by rw [hsx]; exact Nat.le_succ _)).below (below_drewN (Below.refl _ _) 1))
                            have HXb := Lib.hid (show EIn eltQ ((W.alloc (.cells #[] 74)).alloc (.cells (eltQ.enc x).toArray 74)).drew (some ⟨W.heap.size + 1, 0, none⟩) [x] from by rw [← hsx (.cells #[] 74)]; exact (EIn.new eltQ (W.alloc (.cells #[] 74)) x 74).below (fun b off e => rfl))
                            have HXc := Lib.hid (show EIn eltQ ((W.alloc (.cells (eltQ.enc x).toArray 74)).alloc (.cells #[] 74)).drew (some ⟨W.heap.size, 0, none⟩) [x] from (EIn.new eltQ W x 74).below (fun b off e => by simp only [Option.some.injEq, Addr.mk.injEq, and_true] at e; obtain ⟨rfl, rfl⟩ := e; exact Below.heap_alloc (W.alloc (.cells (eltQ.enc x).toArray 74)) _ W.heap.size (by rw [hsx]; omega)))
                            have HOK := Lib.hid (show ∀ w3 A3 n3 cc3, Below W.heap.size W w3 → ERow eltQ W.heap.size w3 (.slice A3 n3 cc3) ([] ++ rs.queue.take p ++ [x] ++ rs.queue.drop p) → RefDoes F tb (m + 1) { rs with queue := rs.queue.take (atQ rs.queue ri) ++ x :: rs.queue.drop (atQ rs.queue ri) } (.int .i64 17) w (.returned (.int .i64 17)) (w3.setCell ⟨tb, 2, none⟩ (.slice A3 n3 cc3)) from fun w3 A3 n3 cc3 hb hown => by
                              rw [HAT.out]
                              have hl1 := HLT1.out
                              have hl2 := HDL.out
                              have hl3 := HI.out.len
                              have hl4 := HN.out
                              have hset := refSetQ (m' := m + 1) HTX.out (HBd.out.trans (hb.mono HBd.out.size)) (hown.base HBd.out.size) (by rw [List.length_append, List.length_append, List.length_append, hl1, hl2]; simp; omega)
                              have e : [] ++ rs.queue.take p ++ [x] ++ rs.queue.drop p = rs.queue.take p ++ x :: rs.queue.drop p := by simp
                              rw [e] at hset
                              exact (show Tr X _ F tb (m + 1) _ from ⟨hset.1, hset.2⟩).does HBX.out HLT.out)
                            clear hal1 hal2
                            rcases ERow.addr (E := eltQ) HI.out.qrow with ⟨hA, hc0⟩ | ⟨g, hA⟩
                            · subst hA hc0
                              obtain rfl : j = 0 := by omega
                              obtain rfl : p = 0 := by omega
                              go_wp2_with fail
                              go_region_law (first
                                | (refine step_appendI eltQ w2 (by rfl) _ _ (by rfl) W.heap.size (.slice A2 n2 cc2) ([] ++ rs.queue.take 0 ++ [x]) (by rfl) hown2 A18 (rs.queue.drop 0) n18 c18 (by rfl) HN18.out hE3 HNIL18.out (by rw [List.length_append, List.nil_append, HLT1.out]; simp <;> omega) hs2 ?_; intro v3 w3 hown3 hgrow3 hat3; obtain ⟨A3, n3, cc3, rfl, -⟩ := ERow.sliceN hown3; have hb3 : Below W.heap.size W w3 := hb2.grown hgrow3 hs2 (fun k e => (hown2.lt k e).1); have c23 : w3.cell? ⟨tb, 2, none⟩ = some (.slice none 0 0) := (hb3.cell (p := ⟨tb, 2, none⟩) tl).trans c2; have f23 : w3.frozen? ⟨tb, 2, none⟩ = false := (World.frozen?_of_block (a := ⟨tb, 2, none⟩) (hb3.block tb tl)).trans f0; have hs3 := hb3.size)
                                | ((fail_if_success (clear hown2)); refine step_appendI eltQ _ (by rfl) _ _ (by rfl) W.heap.size (.slice A1 n1 cc1) ([] ++ rs.queue.take 0) (by rfl) (hown1.below ((Below.refl _ w1).alloc (Nat.le_refl _) _)) (some ⟨w1.heap.size, 0, none⟩) [x] 1 1 (by rfl) rfl (EIn.new eltQ w1 x 74) (fun e => by cases e) (by rw [List.nil_append, HLT1.out]; omega) (by simp; omega) ?_; intro v2 w2 hown2 hgrow2 hat2; obtain ⟨A2, n2, cc2, rfl, -⟩ := ERow.sliceN hown2; have hb2 : Below W.heap.size W w2 := (hb1.alloc hs1 _).grown hgrow2 (by simp; omega) (fun k e => (hown1.lt k e).1); have hs2 := hb2.size; have hE3 : EIn eltQ w2 A18 (rs.queue.drop 0) := ERow.in_all (HR18.out.below hb2))
                                | ((fail_if_success (clear hown2)); refine step_appendI eltQ w1 (by rfl) _ _ (by rfl) W.heap.size (.slice A1 n1 cc1) ([] ++ rs.queue.take 0) (by rfl) hown1 (some ⟨W.heap.size + 1, 0, none⟩) [x] 1 1 (by rfl) rfl hx1 (fun e => by cases e) (by rw [List.nil_append, HLT1.out]; omega) hs1 ?_; intro v2 w2 hown2 hgrow2 hat2; obtain ⟨A2, n2, cc2, rfl, -⟩ := ERow.sliceN hown2; have hb2 : Below W.heap.size W w2 := hb1.grown hgrow2 hs1 (fun k e => (hown1.lt k e).1); have hs2 := hb2.size; have hE3 : EIn eltQ w2 A18 (rs.queue.drop 0) := ERow.in_all (HR18.out.below hb2))
                                | ((fail_if_success (clear hown2)); refine step_appendI eltQ w1 (by rfl) _ _ (by rfl) W.heap.size (.slice A1 n1 cc1) ([] ++ rs.queue.take 0) (by rfl) hown1 (some ⟨W.heap.size, 0, none⟩) [x] 1 1 (by rfl) rfl hx1 (fun e => by cases e) (by rw [List.nil_append, HLT1.out]; omega) hs1 ?_; intro v2 w2 hown2 hgrow2 hat2; obtain ⟨A2, n2, cc2, rfl, -⟩ := ERow.sliceN hown2; have hb2 : Below W.heap.size W w2 := hb1.grown hgrow2 hs1 (fun k e => (hown1.lt k e).1); have hs2 := hb2.size; have hE3 : EIn eltQ w2 A18 (rs.queue.drop 0) := ERow.in_all (HR18.out.below hb2))
                                | ((fail_if_success (clear hown1)); refine step_appendI eltQ _ (by rfl) _ _ (by rfl) W.heap.size (.slice (some ⟨W.heap.size, 0, none⟩) 0 0) [] (by rfl) HMa.out none (rs.queue.take 0) 0 0 (by rfl) HLT1.out (HE1.out _ HB8a.out) (fun _ => rfl) (by simp <;> omega) HB8a.out.size ?_; intro v1 w1 hown1 hgrow1 hat1; obtain ⟨A1, n1, cc1, rfl, -⟩ := ERow.sliceN hown1; have hb1 : Below W.heap.size W w1 := HB8a.out.grown hgrow1 HB8a.out.size (fun k e => (HMa.out.lt k e).1); have hs1 := hb1.size; obtain ⟨y0, y1, y2, y3, y4, y5, y6, y7⟩ := (HXX.out.still (HBd.out.trans (hb1.mono HBd.out.size))).cells; have hyl := (HXX.out.still (HBd.out.trans (hb1.mono HBd.out.size))).lt)
                                | ((fail_if_success (clear hown1)); refine step_appendI eltQ _ (by rfl) _ _ (by rfl) W.heap.size (.slice (some ⟨W.heap.size, 0, none⟩) 0 0) [] (by rfl) HMb.out none (rs.queue.take 0) 0 0 (by rfl) HLT1.out (HE1.out _ HB8b.out) (fun _ => rfl) (by simp <;> omega) HB8b.out.size ?_; intro v1 w1 hown1 hgrow1 hat1; obtain ⟨A1, n1, cc1, rfl, -⟩ := ERow.sliceN hown1; have hb1 : Below W.heap.size W w1 := HB8b.out.grown hgrow1 HB8b.out.size (fun k e => (HMb.out.lt k e).1); have hs1 := hb1.size; obtain ⟨y0, y1, y2, y3, y4, y5, y6, y7⟩ := (HXX.out.still (HBd.out.trans (hb1.mono HBd.out.size))).cells; have hyl := (HXX.out.still (HBd.out.trans (hb1.mono HBd.out.size))).lt; have hx1 : EIn eltQ w1 (some ⟨W.heap.size + 1, 0, none⟩) [x] := HXb.out.below (fun b off e => hgrow1.block b (by simp only [Option.some.injEq, Addr.mk.injEq, and_true] at e; obtain ⟨rfl, rfl⟩ := e; simp <;> omega) (by simp only [Option.some.injEq, Addr.mk.injEq, and_true] at e; obtain ⟨rfl, rfl⟩ := e; simp [Value.ownBlock])))
                                | ((fail_if_success (clear hown1)); refine step_appendI eltQ _ (by rfl) _ _ (by rfl) W.heap.size (.slice (some ⟨W.heap.size + 1, 0, none⟩) 0 0) [] (by rfl) HMc.out none (rs.queue.take 0) 0 0 (by rfl) HLT1.out (HE1.out _ HB8c.out) (fun _ => rfl) (by simp <;> omega) HB8c.out.size ?_; intro v1 w1 hown1 hgrow1 hat1; obtain ⟨A1, n1, cc1, rfl, -⟩ := ERow.sliceN hown1; have hb1 : Below W.heap.size W w1 := HB8c.out.grown hgrow1 HB8c.out.size (fun k e => (HMc.out.lt k e).1); have hs1 := hb1.size; obtain ⟨y0, y1, y2, y3, y4, y5, y6, y7⟩ := (HXX.out.still (HBd.out.trans (hb1.mono HBd.out.size))).cells; have hyl := (HXX.out.still (HBd.out.trans (hb1.mono HBd.out.size))).lt; have hx1 : EIn eltQ w1 (some ⟨W.heap.size, 0, none⟩) [x] := HXc.out.below (fun b off e => hgrow1.block b (by simp only [Option.some.injEq, Addr.mk.injEq, and_true] at e; obtain ⟨rfl, rfl⟩ := e; simp <;> omega) (by simp only [Option.some.injEq, Addr.mk.injEq, and_true] at e; obtain ⟨rfl, rfl⟩ := e; simp [Value.ownBlock]))))
                              all_goals
                                go_wp2_with fail
                                go_ret
                                exact HOK.out _ _ _ _ hb3 hown3
                            · subst hA
                              go_wp2_with fail
                              go_region_law (first
                                | (refine step_appendI eltQ w2 (by rfl) _ _ (by rfl) W.heap.size (.slice A2 n2 cc2) ([] ++ rs.queue.take p ++ [x]) (by rfl) hown2 A18 (rs.queue.drop p) n18 c18 (by rfl) HN18.out hE3 HNIL18.out (by rw [List.length_append, List.nil_append, HLT1.out]; simp; omega) hs2 ?_; intro v3 w3 hown3 hgrow3 hat3; obtain ⟨A3, n3, cc3, rfl, -⟩ := ERow.sliceN hown3; have hb3 : Below W.heap.size W w3 := hb2.grown hgrow3 hs2 (fun k e => (hown2.lt k e).1); have c23 : w3.cell? ⟨tb, 2, none⟩ = some (.slice (some ⟨g, 0, none⟩) j c) := (hb3.cell (p := ⟨tb, 2, none⟩) tl).trans c2; have f23 : w3.frozen? ⟨tb, 2, none⟩ = false := (World.frozen?_of_block (a := ⟨tb, 2, none⟩) (hb3.block tb tl)).trans f0; have hs3 := hb3.size)
                                | ((fail_if_success (clear hown2)); refine step_appendI eltQ _ (by rfl) _ _ (by rfl) W.heap.size (.slice A1 n1 cc1) ([] ++ rs.queue.take p) (by rfl) (hown1.below ((Below.refl _ w1).alloc (Nat.le_refl _) _)) (some ⟨w1.heap.size, 0, none⟩) [x] 1 1 (by rfl) rfl (EIn.new eltQ w1 x 74) (fun e => by cases e) (by rw [List.nil_append, HLT1.out]; omega) (by simp; omega) ?_; intro v2 w2 hown2 hgrow2 hat2; obtain ⟨A2, n2, cc2, rfl, -⟩ := ERow.sliceN hown2; have hb2 : Below W.heap.size W w2 := (hb1.alloc hs1 _).grown hgrow2 (by simp; omega) (fun k e => (hown1.lt k e).1); have hs2 := hb2.size; have hE3 : EIn eltQ w2 A18 (rs.queue.drop p) := ERow.in_all (HR18.out.below hb2))
                                | ((fail_if_success (clear hown2)); refine step_appendI eltQ w1 (by rfl) _ _ (by rfl) W.heap.size (.slice A1 n1 cc1) ([] ++ rs.queue.take p) (by rfl) hown1 (some ⟨W.heap.size + 1, 0, none⟩) [x] 1 1 (by rfl) rfl hx1 (fun e => by cases e) (by rw [List.nil_append, HLT1.out]; omega) hs1 ?_; intro v2 w2 hown2 hgrow2 hat2; obtain ⟨A2, n2, cc2, rfl, -⟩ := ERow.sliceN hown2; have hb2 : Below W.heap.size W w2 := hb1.grown hgrow2 hs1 (fun k e => (hown1.lt k e).1); have hs2 := hb2.size; have hE3 : EIn eltQ w2 A18 (rs.queue.drop p) := ERow.in_all (HR18.out.below hb2))
                                | ((fail_if_success (clear hown2)); refine step_appendI eltQ w1 (by rfl) _ _ (by rfl) W.heap.size (.slice A1 n1 cc1) ([] ++ rs.queue.take p) (by rfl) hown1 (some ⟨W.heap.size, 0, none⟩) [x] 1 1 (by rfl) rfl hx1 (fun e => by cases e) (by rw [List.nil_append, HLT1.out]; omega) hs1 ?_; intro v2 w2 hown2 hgrow2 hat2; obtain ⟨A2, n2, cc2, rfl, -⟩ := ERow.sliceN hown2; have hb2 : Below W.heap.size W w2 := hb1.grown hgrow2 hs1 (fun k e => (hown1.lt k e).1); have hs2 := hb2.size; have hE3 : EIn eltQ w2 A18 (rs.queue.drop p) := ERow.in_all (HR18.out.below hb2))
                                | ((fail_if_success (clear hown1)); refine step_appendI eltQ _ (by rfl) _ _ (by rfl) W.heap.size (.slice (some ⟨W.heap.size, 0, none⟩) 0 0) [] (by rfl) HMa.out (some ⟨g, 0, none⟩) (rs.queue.take p) p c (by rfl) HLT1.out (HE1.out _ HB8a.out) (fun e => by cases e) (by simp; omega) HB8a.out.size ?_; intro v1 w1 hown1 hgrow1 hat1; obtain ⟨A1, n1, cc1, rfl, -⟩ := ERow.sliceN hown1; have hb1 : Below W.heap.size W w1 := HB8a.out.grown hgrow1 HB8a.out.size (fun k e => (HMa.out.lt k e).1); have hs1 := hb1.size; obtain ⟨y0, y1, y2, y3, y4, y5, y6, y7⟩ := (HXX.out.still (HBd.out.trans (hb1.mono HBd.out.size))).cells; have hyl := (HXX.out.still (HBd.out.trans (hb1.mono HBd.out.size))).lt)
                                | ((fail_if_success (clear hown1)); refine step_appendI eltQ _ (by rfl) _ _ (by rfl) W.heap.size (.slice (some ⟨W.heap.size, 0, none⟩) 0 0) [] (by rfl) HMb.out (some ⟨g, 0, none⟩) (rs.queue.take p) p c (by rfl) HLT1.out (HE1.out _ HB8b.out) (fun e => by cases e) (by simp; omega) HB8b.out.size ?_; intro v1 w1 hown1 hgrow1 hat1; obtain ⟨A1, n1, cc1, rfl, -⟩ := ERow.sliceN hown1; have hb1 : Below W.heap.size W w1 := HB8b.out.grown hgrow1 HB8b.out.size (fun k e => (HMb.out.lt k e).1); have hs1 := hb1.size; obtain ⟨y0, y1, y2, y3, y4, y5, y6, y7⟩ := (HXX.out.still (HBd.out.trans (hb1.mono HBd.out.size))).cells; have hyl := (HXX.out.still (HBd.out.trans (hb1.mono HBd.out.size))).lt; have hx1 : EIn eltQ w1 (some ⟨W.heap.size + 1, 0, none⟩) [x] := HXb.out.below (fun b off e => hgrow1.block b (by simp only [Option.some.injEq, Addr.mk.injEq, and_true] at e; obtain ⟨rfl, rfl⟩ := e; simp <;> omega) (by simp only [Option.some.injEq, Addr.mk.injEq, and_true] at e; obtain ⟨rfl, rfl⟩ := e; simp [Value.ownBlock])))
                                | ((fail_if_success (clear hown1)); refine step_appendI eltQ _ (by rfl) _ _ (by rfl) W.heap.size (.slice (some ⟨W.heap.size + 1, 0, none⟩) 0 0) [] (by rfl) HMc.out (some ⟨g, 0, none⟩) (rs.queue.take p) p c (by rfl) HLT1.out (HE1.out _ HB8c.out) (fun e => by cases e) (by simp; omega) HB8c.out.size ?_; intro v1 w1 hown1 hgrow1 hat1; obtain ⟨A1, n1, cc1, rfl, -⟩ := ERow.sliceN hown1; have hb1 : Below W.heap.size W w1 := HB8c.out.grown hgrow1 HB8c.out.size (fun k e => (HMc.out.lt k e).1); have hs1 := hb1.size; obtain ⟨y0, y1, y2, y3, y4, y5, y6, y7⟩ := (HXX.out.still (HBd.out.trans (hb1.mono HBd.out.size))).cells; have hyl := (HXX.out.still (HBd.out.trans (hb1.mono HBd.out.size))).lt; have hx1 : EIn eltQ w1 (some ⟨W.heap.size, 0, none⟩) [x] := HXc.out.below (fun b off e => hgrow1.block b (by simp only [Option.some.injEq, Addr.mk.injEq, and_true] at e; obtain ⟨rfl, rfl⟩ := e; simp <;> omega) (by simp only [Option.some.injEq, Addr.mk.injEq, and_true] at e; obtain ⟨rfl, rfl⟩ := e; simp [Value.ownBlock]))))
                              all_goals
                                go_wp2_with fail
                                go_ret
                                exact HOK.out _ _ _ _ hb3 hown3
end Go.Proofs.Ytnfodidfhnofkaa
