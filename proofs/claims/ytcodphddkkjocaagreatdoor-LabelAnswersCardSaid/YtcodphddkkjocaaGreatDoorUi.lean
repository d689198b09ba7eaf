/- The document's own With and Need (concordatref07). -/
import Derived.Test.YtcodphddkkjocaaGreatDoorQc
import Derived.Test.YtcodphddkkjocaaGreatDoorUb
import Derived.Test.YtcodphddkkjocaaGreatDoorUf
namespace Go.Proofs.YtcodphddkkjocaaGreatDoor
open Go.RowKit Go.Deep
set_option linter.unusedVariables false

def needB (a b : LabD) (k : Nat) : Bool := (a.s.testBit k && !b.s.testBit k) || (b.t.testBit k && !a.t.testBit k)
def badB (a b : LabD) (o k : Nat) : Bool := !o.testBit k && needB a b k
theorem with_bad {a b : LabD} {o k : Nat} (ha : a.ok) (hb : b.ok) (ho : okW64 o) (h : badB a b o k = true) : withB a b o = false := by
  rw [Bool.eq_false_iff]
  intro e
  rw [with_iff ha hb ho] at e
  have e := e k
  revert h e
  unfold badB needB
  generalize a.s.testBit k = p
  generalize b.s.testBit k = q
  generalize a.t.testBit k = r
  generalize b.t.testBit k = s
  generalize o.testBit k = t
  revert p q r s t
  decide
theorem with_all {a b : LabD} {o : Nat} (ha : a.ok) (hb : b.ok) (ho : okW64 o) (h : ∀ k, k < 64 → badB a b o k = false) : withB a b o = true := by
  rw [with_iff ha hb ho]
  intro k
  by_cases hk : k < 64
  · have h := h k hk
    revert h
    unfold badB needB
    generalize a.s.testBit k = p
    generalize b.s.testBit k = q
    generalize a.t.testBit k = r
    generalize b.t.testBit k = s
    generalize o.testBit k = t
    revert p q r s t
    decide
  · rw [bit_high ha.1 (by omega), bit_high hb.2 (by omega)]
    simp
/-- Four sets boxed as two labels, and a number's bits of them. -/
theorem two_cells (w : World) (x y x' y' : Nat) (t : TypeId) (W : World) (h : W = (w.alloc (.cells #[.int .u64 x, .int .u64 y] t)).alloc (.cells #[.int .u64 x', .int .u64 y'] t)) :
    W.cell? ⟨w.heap.size, 0, none⟩ = some (.int .u64 x) ∧ W.cell? ⟨w.heap.size, 1, none⟩ = some (.int .u64 y) ∧ W.cell? ⟨w.heap.size + 1, 0, none⟩ = some (.int .u64 x') ∧ W.cell? ⟨w.heap.size + 1, 1, none⟩ = some (.int .u64 y') ∧ Below w.heap.size w W := by
  subst h
  have h1 := LabBox.new w x y t
  have h2 := LabBox.new (w.alloc (.cells #[.int .u64 x, .int .u64 y] t)) x' y' t
  have hb : Below (w.alloc (.cells #[.int .u64 x, .int .u64 y] t)).heap.size (w.alloc (.cells #[.int .u64 x, .int .u64 y] t)) ((w.alloc (.cells #[.int .u64 x, .int .u64 y] t)).alloc (.cells #[.int .u64 x', .int .u64 y'] t)) := (Below.refl _ _).alloc (Nat.le_refl _) _
  have h3 := h1.below hb h1.lt
  simp only [World.size_alloc] at h2
  exact ⟨h3.c0, h3.c1, h2.c0, h2.c1, ((Below.refl _ _).alloc (Nat.le_refl _) _).alloc (by simp) _⟩
set_option maxRecDepth 100000 in
set_option maxHeartbeats 4000000 in
theorem ref_with (a b : LabD) (o : Nat) (r : Bool) (ha : a.ok) (hb : b.ok) (ho : okW64 o) (hr : withB a b o = r) (w : World) :
    Calls Tryz.prog 10 #[labV a, labV b, .int .u64 o] w fun e w' => e = .returned (.bool r) ∧ Below w.heap.size w w' := by
  obtain ⟨x, y⟩ := a
  obtain ⟨x', y'⟩ := b
  have HBad := Lib.hid (fun k (h : badB ⟨x, y⟩ ⟨x', y'⟩ o k = true) => hr.symm.trans (with_bad ha hb ho h))
  have HAll := Lib.hid (fun (h : ∀ k, k < 64 → badB ⟨x, y⟩ ⟨x', y'⟩ o k = false) => hr.symm.trans (with_all ha hb ho h))
  have cO := fun (k : Nat) (hk : k < 64) W => ref_has o (k : Int) _ ho (hasN_nat o k hk) W
  have cP := fun (k : Nat) (hk : k < 64) W => ref_has x (k : Int) _ ha.1 (hasN_nat x k hk) W
  have cQ := fun (k : Nat) (hk : k < 64) W => ref_has x' (k : Int) _ hb.1 (hasN_nat x' k hk) W
  have cR := fun (k : Nat) (hk : k < 64) W => ref_has y' (k : Int) _ hb.2 (hasN_nat y' k hk) W
  have cS := fun (k : Nat) (hk : k < 64) W => ref_has y (k : Int) _ ha.2 (hasN_nat y k hk) W
  have HD : ∀ k, badB ⟨x, y⟩ ⟨x', y'⟩ o k = (!o.testBit k && ((x.testBit k && !x'.testBit k) || (y'.testBit k && !y.testBit k))) := fun k => rfl
  have HD := Lib.hid HD
  generalize hbb : badB ⟨x, y⟩ ⟨x', y'⟩ o = bad at *
  clear hbb hr ha hb ho
  unfold labV
  simp only
  go_enter Tryz.func10, Tryz.ntmps10
  go_wp2_with fail
  obtain ⟨W0, hW0⟩ : ∃ W, W = (w.alloc (.cells #[.int .u64 x, .int .u64 y] 24)).alloc (.cells #[.int .u64 x', .int .u64 y'] 24) := ⟨_, rfl⟩
  obtain ⟨p0, p1, p2, p3, hB⟩ := two_cells w x y x' y' 24 W0 hW0
  rw [← hW0]
  clear hW0
  go_loop [7] (fun i => ∃ k : Nat, k ≤ 64 ∧ i = .int .i64 k ∧ ∀ j, j < k → bad j = false) (fun i => 64 - (intOf i).toNat)
  case atStart => exact ⟨0, Nat.zero_le _, rfl, fun j hj => absurd hj (by omega)⟩
  case round =>
    obtain ⟨k, hk, rfl, hall⟩ := hrel
    have HA := Lib.hid hall
    clear hall
    by_cases hlt : k < 64
    · have cO := cO k hlt
      have cP := cP k hlt
      have cQ := cQ k hlt
      have cR := cR k hlt
      have cS := cS k hlt
      have HK := Lib.hid (HD.out k)
      have HB1 := Lib.hid (HBad.out k)
      have HN0 : bad k = false → ∀ j, j < k + 1 → bad j = false := fun e j hj => by
        rcases Nat.lt_or_ge j k with h | h
        · exact HA.out j h
        · obtain rfl : j = k := by omega
          exact e
      have HN := Lib.hid HN0
      clear HN0
      clear HBad HAll HD HA
      generalize bad k = bk at *
      generalize o.testBit k = t at *
      generalize x.testBit k = p at *
      generalize x'.testBit k = q at *
      generalize y'.testBit k = s at *
      generalize y.testBit k = u at *
      cases t <;> cases p <;> cases q <;> cases s <;> cases u
      all_goals
        have hbk := HK.out
        simp only [Bool.not_false, Bool.not_true, Bool.and_true, Bool.and_false, Bool.or_true, Bool.or_false] at hbk
        subst hbk
        go_wp2_with (first
          | (go_at_call 31; (with_reducible refine (cO _).mono ?_); rintro e w' ⟨rfl, rfl⟩)
          | (go_at_call 31; (with_reducible refine (cP _).mono ?_); rintro e w' ⟨rfl, rfl⟩)
          | (go_at_call 31; (with_reducible refine (cQ _).mono ?_); rintro e w' ⟨rfl, rfl⟩)
          | (go_at_call 31; (with_reducible refine (cR _).mono ?_); rintro e w' ⟨rfl, rfl⟩)
          | (go_at_call 31; (with_reducible refine (cS _).mono ?_); rintro e w' ⟨rfl, rfl⟩)
          | fail)
        first
          | (go_round
             case rel => exact ⟨k + 1, by omega, by go_num, HN.out (by simp)⟩
             case measure => simp [intOf]; omega)
          | (go_ret; first | exact ⟨rfl, hB⟩ | exact ⟨by rw [HB1.out (by simp)]; rfl, hB⟩)
    · obtain rfl : k = 64 := by omega
      have hT := HAll.out (fun j hj => HA.out j hj)
      go_wp2_with fail
      go_ret
      first | exact ⟨rfl, hB⟩ | exact ⟨by rw [hT]; rfl, hB⟩
end Go.Proofs.YtcodphddkkjocaaGreatDoor
