/- The document's own Need, Join, Meet, Raise (concordatref07). -/
import Derived.Test.YtcodphddkkjocaaGreatDoorUi
import Derived.Deep.RegionWith
import Derived.Deep.RegionHeld3
namespace Go.Proofs.YtcodphddkkjocaaGreatDoor
open Go.RowKit Go.Deep
set_option linter.unusedVariables false

theorem of_cats7 {s : Nat} (h : s < 18446744073709551616) : ofN (intsN (cats s)) = (s, true) := by
  unfold ofN
  have h1 : (intsN (cats s)).all isCat = true := by
    rw [List.all_eq_true]
    intro x hx
    unfold intsN at hx
    obtain ⟨c, hc, rfl⟩ := List.mem_map.1 hx
    have := cats_lt hc
    unfold isCat; simp; omega
  have h2 : (intsN (cats s)).map Int.toNat = cats s := by
    unfold intsN; rw [List.map_map]
    conv => rhs; rw [← List.map_id (cats s)]
    congr 1
  rw [if_pos h1, h2, setOf_cats h]
theorem need_bit {x y x' y' : Nat} (h1 : x < 18446744073709551616) (h2 : y < 18446744073709551616) (h3 : x' < 18446744073709551616) (h4 : y' < 18446744073709551616) (k : Nat) : (needN ⟨x, y⟩ ⟨x', y'⟩).testBit k = ((x.testBit k && !x'.testBit k) || (y'.testBit k && !y.testBit k)) := bit_need (a := ⟨x, y⟩) (b := ⟨x', y'⟩) ⟨h1, h2⟩ ⟨h3, h4⟩ k
set_option maxRecDepth 100000 in
set_option maxHeartbeats 4000000 in
theorem ref_need (a b : LabD) (n : Nat) (ha : a.ok) (hb : b.ok) (hn : needN a b = n) (w : World) :
    Calls Tryz.prog 13 #[labV a, labV b] w fun e w' => e = .returned (.int .u64 n) ∧ Below w.heap.size w w' := by
  obtain ⟨x, y⟩ := a
  obtain ⟨x', y'⟩ := b
  have hnl : n < 18446744073709551616 := by rw [← hn]; exact need_lt ha hb
  have HD : ∀ k, n.testBit k = ((x.testBit k && !x'.testBit k) || (y'.testBit k && !y.testBit k)) := fun k => by rw [← hn]; exact need_bit ha.1 ha.2 hb.1 hb.2 k
  have HD := Lib.hid HD
  have cP := fun (k : Nat) (hk : k < 64) W => ref_has x (k : Int) _ ha.1 (hasN_nat x k hk) W
  have cQ := fun (k : Nat) (hk : k < 64) W => ref_has x' (k : Int) _ hb.1 (hasN_nat x' k hk) W
  have cR := fun (k : Nat) (hk : k < 64) W => ref_has y' (k : Int) _ hb.2 (hasN_nat y' k hk) W
  have cS := fun (k : Nat) (hk : k < 64) W => ref_has y (k : Int) _ ha.2 (hasN_nat y k hk) W
  have HO := Lib.hid (of_cats7 hnl)
  have HN := Lib.hid hnl
  obtain ⟨i0, hi, hz0, hz1, hz2⟩ := info_parts infoInt
  clear ha hb hn hnl
  unfold labV
  simp only
  go_enter Tryz.func13, Tryz.ntmps13
  go_wp2_with fail
  obtain ⟨W0, hW0⟩ : ∃ W, W = (w.alloc (.cells #[.int .u64 x, .int .u64 y] 24)).alloc (.cells #[.int .u64 x', .int .u64 y'] 24) := ⟨_, rfl⟩
  have tc := two_cells w x y x' y' 24 W0 hW0
  have hs0 : W0.heap.size = w.heap.size + 1 + 1 := by rw [hW0]; simp
  obtain ⟨m, hm⟩ : ∃ m, w.heap.size + 1 + 1 = m := ⟨_, rfl⟩
  have hlit : (W0.alloc (.cells #[] 3)).ownsRow m 3 1 (.slice (some ⟨m, 0, none⟩) 0 0) 0 [] := by
    have : (W0.alloc (.cells #[] 3)).ownsRow W0.heap.size 3 1 (.slice (some ⟨W0.heap.size, 0, none⟩) 0 0) 0 [] := World.ownsRow_lit W0 #[] 0 (Nat.le_refl _) (by simp) (by simp)
    rwa [hs0, hm] at this
  rw [hm] at hs0
  have hB0 : Below m W0 (W0.alloc (.cells #[] 3)) := (Below.refl m W0).alloc (by omega) _
  obtain ⟨t0, t1, t2, t3, hBw⟩ := tc
  have hwm : w.heap.size + 1 < m := by omega
  have HF := Lib.hid (fun (W : World) (h : Below m W0 W) => (⟨(h.cell (p := ⟨w.heap.size, 0, none⟩) (show w.heap.size < m by omega)).trans t0, (h.cell (p := ⟨w.heap.size, 1, none⟩) (show w.heap.size < m by omega)).trans t1, (h.cell (p := ⟨w.heap.size + 1, 0, none⟩) hwm).trans t2, (h.cell (p := ⟨w.heap.size + 1, 1, none⟩) hwm).trans t3⟩ :
    W.cell? ⟨w.heap.size, 0, none⟩ = some (.int .u64 x) ∧ W.cell? ⟨w.heap.size, 1, none⟩ = some (.int .u64 y) ∧ W.cell? ⟨w.heap.size + 1, 0, none⟩ = some (.int .u64 x') ∧ W.cell? ⟨w.heap.size + 1, 1, none⟩ = some (.int .u64 y')))
  rw [← hW0, hm]
  have HM := Lib.hid (And.intro hs0 (And.intro hm hBw))
  clear hW0 t0 t1 t2 t3 hwm hs0 hm hBw
  go_loopw [5, 6] (fun v i wr => ∃ (vv : Value) (k : Nat) (ps : List Nat), vv = v ∧ k ≤ 64 ∧ i = .int .i64 k ∧ catsTo n k = ps ∧ OwnsI m wr vv ps ∧ Below m W0 wr) (fun _ i _ => 64 - (intOf i).toNat)
  case atStart => exact ⟨_, 0, [], rfl, Nat.zero_le _, rfl, rfl, hlit, hB0⟩
  case round =>
    obtain ⟨v, k, ps, hvv, hk, rfl, hps, hown, hB⟩ := hrel
    subst hvv
    have hms : m ≤ wr.heap.size := by have := hB.size; have := HM.out.1; omega
    by_cases hlt : k < 64
    · have cP := cP k hlt
      have cQ := cQ k hlt
      have cR := cR k hlt
      have cS := cS k hlt
      have hstep := catsTo_succ n k
      have hlen := catsTo_len n k
      rw [hps] at hstep hlen
      have HS := Lib.hid hstep
      have HL := Lib.hid hlen
      have hk := HD.out k
      clear hstep hps hlen HD
      obtain ⟨p0, p1, p2, p3⟩ := HF.out wr hB
      generalize n.testBit k = bk at *
      generalize x.testBit k = p at *
      generalize x'.testBit k = q at *
      generalize y'.testBit k = s at *
      generalize y.testBit k = u at *
      cases p <;> cases q <;> cases s <;> cases u
      all_goals
        simp only [Bool.not_false, Bool.not_true, Bool.and_true, Bool.and_false, Bool.or_true, Bool.or_false] at hk
        subst hk
        have hS := Lib.hid HS.out
        first
          | (have hno := hS.out
             simp only [Bool.false_eq_true, if_false] at hno
             have hno := Lib.hid hno
             clear hS HS
             go_wp2_with (first
          | (go_at_call 31; (with_reducible refine (cP _).mono ?_); rintro e w' ⟨rfl, rfl⟩)
          | (go_at_call 31; (with_reducible refine (cQ _).mono ?_); rintro e w' ⟨rfl, rfl⟩)
          | (go_at_call 31; (with_reducible refine (cR _).mono ?_); rintro e w' ⟨rfl, rfl⟩)
          | (go_at_call 31; (with_reducible refine (cS _).mono ?_); rintro e w' ⟨rfl, rfl⟩)
          | fail)
             go_roundw
             case rel => exact ⟨_, k + 1, ps, rfl, by omega, by go_num, hno.out, hown, hB⟩
             case measure => simp [intOf]; omega)
          | (have hyes := hS.out
             simp only [if_true] at hyes
             have hyes := Lib.hid hyes
             clear hS HS
             have hlen := HL.out
             go_wp2_with (first
               | (go_at_call 31; (with_reducible refine (cP _).mono ?_); rintro e w' ⟨rfl, rfl⟩)
               | (go_at_call 31; (with_reducible refine (cQ _).mono ?_); rintro e w' ⟨rfl, rfl⟩)
               | (go_at_call 31; (with_reducible refine (cR _).mono ?_); rintro e w' ⟨rfl, rfl⟩)
               | (go_at_call 31; (with_reducible refine (cS _).mono ?_); rintro e w' ⟨rfl, rfl⟩)
               | (at_builtin; refine wpList_append_own _ rfl _ _ 49 rfl m 3 i0 (.int .i64 0) 1 8 Tryz.underlying49 hi hz0 hz1 hz2 rfl (by decide) v ps.length (ps.map natV) rfl (World.ownsRow.alloc hown _) ⟨wr.heap.size, 0, none⟩ 1 1 [natV k] rfl rfl (cell_one_new _ _ _) (by simp [natV, Value.oneCell']) (by simp only [maxLen]; omega) (by omega) (by simp; omega) ?_; intro v' w1 hown' hgrow _)
               | fail)
             go_roundw
             case rel =>
               refine ⟨v', k + 1, ps ++ [k], rfl, by omega, by go_num, hyes.out, ?_, (hB.alloc hms _).grown hgrow (by simp; omega) (fun j e => (World.ownsRow.lt hown j e).1)⟩
               unfold OwnsI
               rw [List.length_append, List.map_append]
               exact hown'
             case measure => simp [intOf]; omega)
    · obtain rfl : k = 64 := by omega
      have e : ps = cats n := by rw [← hps]; rfl
      subst e
      obtain ⟨A, c, rfl, hI⟩ := ownsI_ints hown
      have hL : (intsN (cats n)).length = (cats n).length := by unfold intsN; rw [List.length_map]
      have cF := ref_of A (intsN (cats n)) (cats n).length c wr.heap.size n true hL (Nat.le_trans (by have := catsTo_len n 64; exact this) (by decide)) HO.out wr hI
      clear hps hL hI hown
      generalize (cats n).length = l at *
      have hBw := below_more HM.out.2.2 (show Below W0.heap.size W0 wr by rw [HM.out.1]; exact hB) (Nat.le_refl _)
      go_wp2_with fail
      refine cF.mono ?_
      rintro e w' ⟨rfl, rfl⟩
      go_wp2_with fail
      go_ret
      exact ⟨rfl, hBw⟩
end Go.Proofs.YtcodphddkkjocaaGreatDoor
