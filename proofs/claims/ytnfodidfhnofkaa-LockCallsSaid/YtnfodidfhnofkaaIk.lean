/- The document's own: sorted keys. -/
import Derived.Test.YtnfodidfhnofkaaIj
import Derived.Test.YtnfodidfhnofkaaIi
import Derived.Deep.CutRange
import Derived.Deep.CutBlock
namespace Go.Proofs.Ytnfodidfhnofkaa
open Go.RowKit Go.Deep Go.Maps Go.Lib

theorem key_ne_num {x y : KeyT} (h : x ≠ y) : x.num ≠ y.num := fun e => h (KeyT.num_inj e)
theorem sortedK_insert {out : List KeyT} {y : KeyT} {p : Nat} (hs : SortedK out) (h1 : ∀ x ∈ out.take p, x.num < y.num) (h2 : ∀ x, out[p]? = some x → ¬ x.num < y.num ∧ x ≠ y) : SortedK (out.take p ++ [y] ++ out.drop p) := by
  have h3 : ∀ x ∈ out.drop p, y.num < x.num := by
    have hsd : SortedK (out.drop p) := List.Pairwise.sublist (List.drop_sublist p out) hs
    cases hd : out.drop p with
    | nil => intro x hx; cases hx
    | cons z r =>
      have hz : out[p]? = some z := by
        have := List.getElem?_drop (xs := out) (i := p) (j := 0)
        rw [hd] at this
        simpa using this.symm
      obtain ⟨a1, a2⟩ := h2 z hz
      have a3 := key_ne_num a2
      rw [hd] at hsd
      intro x hx
      rcases List.mem_cons.1 hx with rfl | hx
      · omega
      · have := (List.pairwise_cons.1 hsd).1 x hx
        omega
  unfold SortedK
  rw [List.append_assoc, List.pairwise_append]
  refine ⟨List.Pairwise.sublist (List.take_sublist p out) hs, ?_, fun a ha b hb => ?_⟩
  · exact List.pairwise_cons.2 ⟨h3, List.Pairwise.sublist (List.drop_sublist p out) hs⟩
  · rcases List.mem_cons.1 hb with rfl | hb
    · exact h1 a ha
    · have := h1 a ha
      have := h3 b hb
      omega
theorem mem_insert {out : List KeyT} {y k : KeyT} {p : Nat} : k ∈ out.take p ++ [y] ++ out.drop p ↔ k ∈ out ∨ k = y := by
  have e : k ∈ out ↔ k ∈ out.take p ∨ k ∈ out.drop p := by rw [← List.mem_append, List.take_append_drop]
  rw [List.mem_append, List.mem_append, List.mem_singleton, e]
  constructor
  · rintro ((h | h) | h)
    · exact .inl (.inl h)
    · exact .inr h
    · exact .inl (.inr h)
  · rintro ((h | h) | h)
    · exact .inl (.inl h)
    · exact .inr h
    · exact .inl (.inr h)
set_option maxRecDepth 100000 in
set_option maxHeartbeats 8000000 in
theorem refSorted_any (A : Option Addr) (n c : Nat) (l : List KeyT) (w : World) (hl : l.length = n) (hn : n ≤ 1000) (hin : ∀ w', Below w.heap.size w w' → EIn eltK w' A l) :
    Calls Try.prog 48 #[.slice A n c] w fun e w' => ∃ v out, e = .returned v ∧ ERow eltK w.heap.size w' v out ∧ SortedK out ∧ (∀ k, k ∈ out ↔ k ∈ l) ∧ Below w.heap.size w w' := by
  have HIN := Lib.hid hin
  have HL := Lib.hid hl
  have HMD := Lib.hid (show ERow eltK w.heap.size (w.alloc (.cells #[] 24)) (.slice (some ⟨w.heap.size, 0, none⟩) 0 0) [] from ERow.made eltK w.heap.size w (Nat.le_refl _))
  have HB0 := Lib.hid (show Below w.heap.size w (w.alloc (.cells #[] 24)) from (Below.refl _ w).alloc (Nat.le_refl _) _)
  clear hin hl
  go_enter Try.func48, Try.ntmps48
  go_wp2_with fail
  go_loopg [3, 4] n (fun gg s3 s4 wq => ∃ (i og N cc : Nat) (out : List KeyT), i ≤ n ∧ n - i ≤ gg ∧ s4 = .int .i64 i ∧ s3 = .slice (some ⟨og, 0, none⟩) N cc ∧ N ≤ i ∧ Hid (out.length = N) ∧ Hid (ERow eltK w.heap.size wq (.slice (some ⟨og, 0, none⟩) N cc) out) ∧ Hid (SortedK out) ∧ Hid (∀ k, k ∈ out ↔ k ∈ l.take i) ∧ Hid (Below w.heap.size w wq))
  case atStart => exact ⟨0, w.heap.size, 0, 0, [], Nat.zero_le _, by omega, rfl, rfl, Nat.le_refl _, Lib.hid rfl, HMD, Lib.hid List.Pairwise.nil, Lib.hid (fun k => by rw [List.take_zero]), HB0⟩
  case round =>
    obtain ⟨i, og, N, cc, out, hi, hgi, rfl, rfl, hNi, HN, HR, HS, HM, HB⟩ := hrel
    by_cases hil : i < n
    · have hiz : (i : Int) < (n : Int) := by omega
      obtain ⟨y, hy⟩ : ∃ y, l[i]? = some y := ⟨_, List.getElem?_eq_getElem (by have := HL.out; omega)⟩
      obtain ⟨b, off, rfl⟩ : ∃ b off, A = some ⟨b, off, none⟩ := by
        rcases HIN.out w (Below.refl _ _) with e | ⟨b, off, e, _⟩
        · rw [e] at hy; simp at hy
        · exact ⟨b, off, e⟩
      have HYC := Lib.hid (show ∀ W, Below w.heap.size w W → ∀ t v, (kv y)[t]? = some v → W.cell? ⟨b, off + i * 4 + t, none⟩ = some v from fun W hb t v hv => by
        rcases HIN.out W hb with e | ⟨b', off', e, hc⟩
        · rw [e] at hy; simp at hy
        · simp only [Option.some.injEq, Addr.mk.injEq, and_true] at e
          obtain ⟨rfl, rfl⟩ := e
          exact hc i y hy t v hv)
      have HTK := Lib.hid (take_snoc hy)
      have hNcc : N ≤ cc := by have := HR.out.cap.2.1; have := HN.out; omega
      clear hy
      obtain ⟨wo, rfl⟩ : ∃ wo, wo = wr := ⟨_, rfl⟩
      go_upto_block 2 with fail
      go_cut [5] from 14 to 30 (fun s5 wx => ∃ p : Nat, p ≤ N ∧ s5 = .int .i64 p ∧ Hid (∀ x ∈ out.take p, x.num < y.num) ∧ Hid (∀ x, out[p]? = some x → ¬ x.num < y.num) ∧ Hid (Below wo.heap.size wo wx))
      case first =>
        go_wp2_with fail
        go_loopg [5] N (fun gg s5 wq => ∃ p : Nat, p ≤ N ∧ N - p ≤ gg ∧ s5 = .int .i64 p ∧ Hid (∀ x ∈ out.take p, x.num < y.num) ∧ Hid (Below wo.heap.size wo wq))
        case atStart => exact ⟨0, Nat.zero_le _, by omega, rfl, Lib.hid (fun x hx => by rw [List.take_zero] at hx; cases hx), Lib.hid (Below.refl _ _)⟩
        case round =>
          obtain ⟨p, hp, hgp, rfl, HP, HBp⟩ := hrel
          by_cases hpl : p < N
          · have hpz : (p : Int) < (N : Int) := by omega
            obtain ⟨x, hx⟩ : ∃ x, out[p]? = some x := ⟨_, List.getElem?_eq_getElem (by have := HN.out; omega)⟩
            have hRp := HR.out.below HBp.out
            have hxc := ERow.cell hRp hx
            have x0 : wr.cell? ⟨og, p * 4, none⟩ = some (.int .u8 (x.a.val : Int)) := hxc 0 _ rfl
            have x1 : wr.cell? ⟨og, p * 4 + 1, none⟩ = some (.int .u8 (x.b.val : Int)) := hxc 1 _ rfl
            have x2 : wr.cell? ⟨og, p * 4 + 2, none⟩ = some (.int .u8 (x.c.val : Int)) := hxc 2 _ rfl
            have x3 : wr.cell? ⟨og, p * 4 + 3, none⟩ = some (.int .u8 (x.d.val : Int)) := hxc 3 _ rfl
            have hyc := HYC.out wr (HB.out.trans (HBp.out.mono HB.out.size))
            have y0 : wr.cell? ⟨b, off + i * 4, none⟩ = some (.int .u8 (y.a.val : Int)) := hyc 0 _ rfl
            have y1 : wr.cell? ⟨b, off + i * 4 + 1, none⟩ = some (.int .u8 (y.b.val : Int)) := hyc 1 _ rfl
            have y2 : wr.cell? ⟨b, off + i * 4 + 2, none⟩ = some (.int .u8 (y.c.val : Int)) := hyc 2 _ rfl
            have y3 : wr.cell? ⟨b, off + i * 4 + 3, none⟩ = some (.int .u8 (y.d.val : Int)) := hyc 3 _ rfl
            have HX := Lib.hid hx
            have hbd : Below wr.heap.size wr wr.drew := below_drewN (Below.refl _ wr) 1
            have HBd := Lib.hid (HBp.out.trans (hbd.mono HBp.out.size))
            clear hRp hxc hyc hx hbd
            go_wp2_with fail
            go_still_tail 13, (by kernel_rfl)
            change wpList _ _ _ _ _ wr.drew
            generalize wr.drew = W at *
            have hbel := refBelow_any x y W
            simp only [KV_def] at hbel
            obtain ⟨q, hq⟩ : ∃ q, decide (x.num < y.num) = q := ⟨_, rfl⟩
            rw [hq] at hbel
            have HQ := Lib.hid hq
            clear x0 x1 x2 x3 y0 y1 y2 y3 hq
            go_wp2_with fail
            refine hbel.mono ?_
            rintro e w5 ⟨rfl, hb5⟩
            have HB5 := Lib.hid (HBd.out.trans (hb5.mono HBd.out.size))
            clear hbel hb5
            cases q with
            | true =>
              go_wp2_with fail
              go_roundg (N - (p + 1))
              case measure => omega
              case rel => exact ⟨p + 1, by omega, by omega, by go_num, Lib.hid (fun z hz => by
                rw [take_snoc HX.out] at hz
                rcases List.mem_append.1 hz with hz | hz
                · exact HP.out z hz
                · simp only [List.mem_singleton] at hz; subst hz; exact of_decide_eq_true HQ.out), HB5⟩
            | false =>
              go_wp2_with fail
              go_meet
              exact ⟨p, hp, rfl, HP, Lib.hid (fun z hz => by rw [HX.out] at hz; obtain rfl := Option.some.inj hz; exact of_decide_eq_false HQ.out), HB5⟩
          · obtain rfl : p = N := by omega
            go_wp2_with fail
            go_quiet (fail)
            go_wp2_with fail
            go_meet
            exact ⟨p, hp, rfl, HP, Lib.hid (fun z hz => by rw [List.getElem?_eq_none (by have := HN.out; omega)] at hz; cases hz), Lib.hid (HBp.out.trans ((below_drewN (Below.refl _ wr) _).mono HBp.out.size))⟩
      case rest =>
        obtain ⟨p, hp, rfl, HP, HP2, HBx⟩ := hcut
        obtain ⟨wa, rfl⟩ : ∃ wa, wa = wc := ⟨_, rfl⟩
        go_upto_region 8 with fail
        go_cut [45] from 31 to 44 (fun s45 wx => ∃ q : Bool, s45 = .bool q ∧ Hid (q = true → out[p]? = some y) ∧ Hid (q = false → ∀ x, out[p]? = some x → x ≠ y) ∧ Hid (Below wo.heap.size wo wx))
        case first =>
          have hyc := HYC.out wa (HB.out.trans (HBx.out.mono HB.out.size))
          have y0 : wa.cell? ⟨b, off + i * 4, none⟩ = some (.int .u8 (y.a.val : Int)) := hyc 0 _ rfl
          have y1 : wa.cell? ⟨b, off + i * 4 + 1, none⟩ = some (.int .u8 (y.b.val : Int)) := hyc 1 _ rfl
          have y2 : wa.cell? ⟨b, off + i * 4 + 2, none⟩ = some (.int .u8 (y.c.val : Int)) := hyc 2 _ rfl
          have y3 : wa.cell? ⟨b, off + i * 4 + 3, none⟩ = some (.int .u8 (y.d.val : Int)) := hyc 3 _ rfl
          clear hyc
          by_cases hpl : p < N
          · have hpz : (p : Int) < (N : Int) := by omega
            obtain ⟨x, hx⟩ : ∃ x, out[p]? = some x := ⟨_, List.getElem?_eq_getElem (by have := HN.out; omega)⟩
            have hxc := ERow.cell (HR.out.below HBx.out) hx
            have x0 : wa.cell? ⟨og, p * 4, none⟩ = some (.int .u8 (x.a.val : Int)) := hxc 0 _ rfl
            have x1 : wa.cell? ⟨og, p * 4 + 1, none⟩ = some (.int .u8 (x.b.val : Int)) := hxc 1 _ rfl
            have x2 : wa.cell? ⟨og, p * 4 + 2, none⟩ = some (.int .u8 (x.c.val : Int)) := hxc 2 _ rfl
            have x3 : wa.cell? ⟨og, p * 4 + 3, none⟩ = some (.int .u8 (x.d.val : Int)) := hxc 3 _ rfl
            have HX := Lib.hid hx
            have heq := fun W => run_eqlKey x y W
            simp only [KV_def] at heq
            clear hxc hx
            by_cases hxy : x = y
            · have e1 : decide (x = y) = true := decide_eq_true hxy
              simp only [e1] at heq
              have HXY := Lib.hid (show out[p]? = some y by rw [HX.out, hxy])
              clear hxy e1
              go_wp2_with fail
              go_quiet (fail)
              go_wp2_with fail
              go_meet
              exact ⟨true, rfl, Lib.hid (fun _ => HXY.out), Lib.hid (fun e => by cases e), Lib.hid (HBx.out.trans ((below_drewN (Below.refl _ wa) _).mono HBx.out.size))⟩
            · have e1 : decide (x = y) = false := decide_eq_false hxy
              simp only [e1] at heq
              have HNE := Lib.hid (show ∀ z, out[p]? = some z → z ≠ y from fun z hz => by rw [HX.out] at hz; obtain rfl := Option.some.inj hz; exact hxy)
              clear hxy e1
              go_wp2_with fail
              go_quiet (fail)
              go_wp2_with fail
              go_meet
              exact ⟨false, rfl, Lib.hid (fun e => by cases e), Lib.hid (fun _ => HNE.out), Lib.hid (HBx.out.trans ((below_drewN (Below.refl _ wa) _).mono HBx.out.size))⟩
          · obtain rfl : p = N := by omega
            go_wp2_with fail
            go_quiet (fail)
            go_wp2_with fail
            go_meet
            exact ⟨false, rfl, Lib.hid (fun e => by cases e), Lib.hid (fun _ z hz => by rw [List.getElem?_eq_none (by have := HN.out; omega)] at hz; cases hz), Lib.hid (HBx.out.trans ((below_drewN (Below.refl _ wa) _).mono HBx.out.size))⟩
        case rest =>
          obtain ⟨q, rfl, HQ1, HQ2, HBy⟩ := hcut
          obtain ⟨wb, rfl⟩ : ∃ wb, wb = wc := ⟨_, rfl⟩
          cases q with
          | true =>
            have HM2 := Lib.hid (show ∀ k, k ∈ out ↔ k ∈ l.take (i + 1) from fun k => by
              rw [HTK.out, List.mem_append, List.mem_singleton, HM.out k]
              exact ⟨.inl, fun h => h.elim id fun e => (HM.out k).1 (by rw [e]; exact List.mem_of_getElem? (HQ1.out rfl))⟩)
            go_wp2_with fail
            go_roundg (n - (i + 1))
            case measure => omega
            case rel => exact ⟨i + 1, og, N, cc, out, by omega, by omega, by go_num, rfl, by omega, HN, Lib.hid (HR.out.below HBy.out), HS, HM2, Lib.hid (HB.out.trans (HBy.out.mono HB.out.size))⟩
          | false =>
            have HNE := Lib.hid (HQ2.out rfl)
            have HINS := Lib.hid (sortedK_insert HS.out HP.out fun x hx => ⟨HP2.out x hx, HNE.out x hx⟩)
            have hsz := HBy.out.size
            have HMD2 := Lib.hid (show ERow eltK wo.heap.size (wb.alloc (.cells #[] 24)) (.slice (some ⟨wb.heap.size, 0, none⟩) 0 0) [] from ERow.made eltK wo.heap.size wb hsz)
            have HBM := Lib.hid (HBy.out.alloc hsz (.cells #[] 24))
            have HDL := Lib.hid (show (out.drop p).length = N - p by rw [List.length_drop, HN.out])
            have hpz0 : (p : Int) ≤ (N : Int) := by omega
            have hpc0 : (p : Int) ≤ (cc : Int) := by omega
            go_upto_region 9 with fail
            go_cut [6] from 46 to 50 (fun s6 wx => Hid (ERow eltK wo.heap.size wx s6 (out.drop p)) ∧ Hid (Below wo.heap.size wo wx))
            case first =>
              have hin0 := ERow.in_all (HR.out.below (HBM.out))
              by_cases hc : cc = p
              · subst hc
                have hNp : N = cc := by omega
                have HDZ := Lib.hid (show (out.drop cc).length = 0 by rw [HDL.out]; omega)
                have HE := Lib.hid (show EIn eltK (wb.alloc (.cells #[] 24)) (some ⟨og, 0, none⟩) (out.drop cc) from .inl (List.eq_nil_of_length_eq_zero HDZ.out))
                subst hNp
                have hle : (N : Int) ≤ (N : Int) := Int.le_refl _
                clear hin0
                go_wp2_with (first
                  | (at_builtin; refine wpList_appendE eltK _ rfl _ _ rfl wo.heap.size _ [] rfl HMD2.out (some ⟨og, 0, none⟩) (out.drop N) 0 0 rfl HDZ.out (HE.out) (fun e => by cases e) (by rw [List.length_nil]; omega) HBM.out.size ?_; intro v' w' hown hgrow hat)
                  | fail)
                go_meet
                exact ⟨Lib.hid (by rw [List.nil_append] at hown; exact hown), Lib.hid (HBM.out.grown hgrow HBM.out.size (fun k e => (HMD2.out.lt k e).1))⟩
              · have HE := Lib.hid (show EIn eltK (wb.alloc (.cells #[] 24)) (some ⟨og, p * 4, none⟩) (out.drop p) by have := hin0.drop p; rw [Nat.zero_add] at this; exact this)
                clear hin0
                go_wp2_with (first
                  | (at_builtin; refine wpList_appendE eltK _ rfl _ _ rfl wo.heap.size _ [] rfl HMD2.out (some ⟨og, p * 4, none⟩) (out.drop p) (N - p) (cc - p) rfl HDL.out (HE.out) (fun e => by cases e) (by rw [List.length_nil]; omega) HBM.out.size ?_; intro v' w' hown hgrow hat)
                  | fail)
                go_meet
                exact ⟨Lib.hid (by rw [List.nil_append] at hown; exact hown), Lib.hid (HBM.out.grown hgrow HBM.out.size (fun k e => (HMD2.out.lt k e).1))⟩
            case rest =>
              obtain ⟨HR6, HBz⟩ := hcut
              obtain ⟨wd, rfl⟩ : ∃ wd, wd = wc := ⟨_, rfl⟩
              obtain ⟨A6, n6, c6, rfl, hn6⟩ := ERow.sliceN HR6.out
              have HN6 := Lib.hid (show (out.drop p).length = n6 from hn6.symm)
              have hn6b : n6 ≤ 1000 := by have := HN6.out; rw [HDL.out] at this; omega
              have HNIL := Lib.hid (HR6.out.cap.1)
              have hyc := HYC.out wd (HB.out.trans (HBz.out.mono HB.out.size))
              have y0 : wd.cell? ⟨b, off + i * 4, none⟩ = some (.int .u8 (y.a.val : Int)) := hyc 0 _ rfl
              have y1 : wd.cell? ⟨b, off + i * 4 + 1, none⟩ = some (.int .u8 (y.b.val : Int)) := hyc 1 _ rfl
              have y2 : wd.cell? ⟨b, off + i * 4 + 2, none⟩ = some (.int .u8 (y.c.val : Int)) := hyc 2 _ rfl
              have y3 : wd.cell? ⟨b, off + i * 4 + 3, none⟩ = some (.int .u8 (y.d.val : Int)) := hyc 3 _ rfl
              clear hyc
              have HRd := Lib.hid (HR.out.below HBz.out)
              have hbd := HB.out.trans (HBz.out.mono HB.out.size)
              have HBd := Lib.hid hbd
              have hszd := hbd.size
              have HLT := Lib.hid (show (out.take p).length = p by rw [List.length_take, HN.out]; omega)
              have hal : Below wd.heap.size wd (wd.alloc (.cells #[.int .u8 (y.a.val : Int), .int .u8 (y.b.val : Int), .int .u8 (y.c.val : Int), .int .u8 (y.d.val : Int)] 24)).drew := below_drewN ((Below.refl _ wd).alloc (Nat.le_refl _) _) 1
              have HAL := Lib.hid hal
              have HE1 := Lib.hid ((ERow.in_all (HRd.out.below hal)).take p)
              have hpp : (p : Int) ≤ (p : Int) := Int.le_refl _
              have hbl : b < wd.heap.size := World.block_lt_of_cell? wd _ y0
              clear hn6 hbd hal
              go_wp2_with fail
              go_region_law (first
                | (refine step_appendI eltK w1 (by rfl) _ _ (by rfl) w.heap.size (.slice A1 n1 cc1) (out.take p ++ [y]) (by rfl) hown1 A6 (out.drop p) n6 c6 (by rfl) HN6.out hE2 HNIL.out (by rw [List.length_append, HLT.out]; simp; omega) hs1 ?_; intro v2 w2 hown2 hgrow2 hat2; obtain ⟨A2, n2, cc2, rfl, hn2⟩ := ERow.sliceN hown2; have HN2 := Lib.hid hn2; clear hn2; have hb2 : Below w.heap.size w w2 := hb1.grown hgrow2 hs1 (fun k e => (hown1.lt k e).1))
                | ((fail_if_success (clear hown1)); refine step_growI eltK _ (by rfl) _ _ (by rfl) w.heap.size og p (out.take p) (by rfl) HLT.out HE1.out ⟨wd.heap.size, 0, none⟩ [y] 1 1 (by rfl) rfl (by decide) (EIn.new eltK wd.drew y _) (by omega) (by simp; omega) ?_; intro v1 w1 hown1 hgrow1 hat1; obtain ⟨A1, n1, cc1, rfl, -⟩ := ERow.sliceN hown1; have hb1d : Below wd.heap.size wd w1 := HAL.out.grown ⟨hgrow1.os, hgrow1.tape, hgrow1.output, hgrow1.size, hgrow1.block⟩ HAL.out.size (fun k e => by cases e); have hb1 : Below w.heap.size w w1 := HBd.out.trans (hb1d.mono HBd.out.size); have hE2 : EIn eltK w1 A6 (out.drop p) := ERow.in_all (HR6.out.below hb1d); have hs1 := hb1.size))
              all_goals
                have hlen2 : n2 = N + 1 := by rw [HN2.out, List.length_append, List.length_append, HLT.out, HDL.out]; simp; omega
                obtain ⟨g2, rfl, -, -, -⟩ := hown2.at (by rw [← HN2.out]; omega)
                have HL2 := Lib.hid hlen2
                clear hlen2
                go_wp2_with fail
                go_roundg (n - (i + 1))
                case measure => omega
                case rel => exact ⟨i + 1, g2, n2, cc2, _, by omega, by omega, by go_num, rfl, by have := HL2.out; omega, Lib.hid HN2.out.symm, Lib.hid hown2, HINS, Lib.hid (fun k => by rw [mem_insert, HTK.out, List.mem_append, List.mem_singleton, HM.out k]), Lib.hid hb2⟩
    · obtain rfl : i = n := by omega
      have e : l.take i = l := by rw [← HL.out]; exact List.take_length
      have HM2 := Lib.hid (show ∀ k, k ∈ out ↔ k ∈ l by have := HM.out; rw [e] at this; exact this)
      clear e
      go_wp2_with fail
      go_ret
      exact ⟨_, out, rfl, HR.out, HS.out, HM2.out, HB.out⟩
end Go.Proofs.Ytnfodidfhnofkaa
