/- Layer 7's calls on labels' sets: Need, With, Flows, Join, Meet, Raise: what each answers, for every input; older memory stays. -/
import Derived.Test.YtcodphddkkjocaaGreatDoorPd
import Derived.Deep.QuietTactic
import Derived.BigQuiet
import Derived.Deep.RegionWith
namespace Go.Proofs.YtcodphddkkjocaaGreatDoor
open Go.RowKit
set_option linter.unusedVariables false

theorem quiet_sameL {P : Program} {f : FuncId} {args : Array Value} {w : World} {n : Nat} {v : Value}
    (h : Calls P f args (w.drewN n) fun e w' => e = .returned v ∧ w.drewN n = w') : Calls P f args (w.drewN n) fun e w'' => e = .returned v ∧ ∃ m, w'' = w.drewN m :=
  h.mono fun _ _ ⟨he, hm⟩ => ⟨he, n, hm.symm⟩
theorem below_sc7 {B b i : Nat} {w W : World} (h : Below B w W) (hb : B ≤ b) (v : Value) : Below B w (W.setCell ⟨b, i, none⟩ v) := h.setCell (p := ⟨b, i, none⟩) hb v
/-- A label: two sets of categories. -/
structure LabD where
  s : Nat
  t : Nat
def LabD.ok (a : LabD) : Prop := a.s < 18446744073709551616 ∧ a.t < 18446744073709551616
def labV (a : LabD) : Value := .agg #[.int .u64 a.s, .int .u64 a.t]
def needN (a b : LabD) : Nat := minus a.s b.s ||| minus b.t a.t
def joinD (a b : LabD) : LabD := ⟨a.s ||| b.s, a.t &&& b.t⟩
def meetD (a b : LabD) : LabD := ⟨a.s &&& b.s, a.t ||| b.t⟩
def raiseD (a : LabD) (x y : Nat) : LabD := ⟨a.s ||| x, minus a.t y⟩
theorem need_lt {a b : LabD} (ha : a.ok) (hb : b.ok) : needN a b < 18446744073709551616 := or_lt (minus_lt ha.1) (minus_lt hb.2)
set_option maxRecDepth 100000 in
set_option maxHeartbeats 1000000 in
theorem need_any (a b : LabD) (n : Nat) (ha : a.ok) (hb : b.ok) (hn : needN a b = n) (w : World) :
    Calls Tryz.prog 12 #[labV a, labV b] w fun e w' => e = .returned (.int .u64 n) ∧ Below w.heap.size w w' := by
  obtain ⟨x, y⟩ := a
  obtain ⟨x', y'⟩ := b
  obtain ⟨h1, h2⟩ := ha
  obtain ⟨h3, h4⟩ := hb
  obtain ⟨p, hp⟩ : ∃ p, minus x x' = p := ⟨_, rfl⟩
  obtain ⟨q, hq⟩ : ∃ q, minus y' y = q := ⟨_, rfl⟩
  have c1 := minus_any x x' p h1 h3 hp
  have c2 := minus_any y' y q h4 h2 hq
  have h5 : bits .or .u64 (p : Int) (q : Int) = (n : Int) := by
    have hp' : p < 18446744073709551616 := by rw [← hp]; exact minus_lt h1
    have hq' : q < 18446744073709551616 := by rw [← hq]; exact minus_lt h4
    rw [bits_or_u64_nat p q hp' hq', ← hn, ← hp, ← hq]; rfl
  clear hn hp hq h1 h2 h3 h4
  unfold labV
  go_enter Tryz.func12, Tryz.ntmps12
  go_wp2
  go_quiet ((go_at_call 33; first | exact quiet_sameL (c1 _) | exact quiet_sameL (c2 _)))
  go_wp2
  go_ret
  exact ⟨rfl, below_drewN (((Below.refl _ _).alloc (Nat.le_refl _) _).alloc (by simp) _) _⟩
def withB (a b : LabD) (o : Nat) : Bool := within (needN a b) o
def flowsB (a b : LabD) : Bool := withB a b 0
set_option maxRecDepth 100000 in
set_option maxHeartbeats 1000000 in
theorem with_any (a b : LabD) (o : Nat) (r : Bool) (ha : a.ok) (hb : b.ok) (ho : o < 18446744073709551616) (hr : withB a b o = r) (w : World) :
    Calls Tryz.prog 11 #[labV a, labV b, .int .u64 o] w fun e w' => e = .returned (.bool r) ∧ Below w.heap.size w w' := by
  obtain ⟨n, hn⟩ : ∃ n, needN a b = n := ⟨_, rfl⟩
  have cn := need_any a b n ha hb hn
  have hnl : n < 18446744073709551616 := by rw [← hn]; exact need_lt ha hb
  have cw := within_any n o r hnl ho (by rw [← hr, ← hn]; rfl)
  obtain ⟨x, y⟩ := a
  obtain ⟨x', y'⟩ := b
  clear ha hb ho hr hn hnl
  unfold labV at *
  go_enter Tryz.func11, Tryz.ntmps11
  go_wp2_with fail
  refine (cn _).mono ?_
  rintro e w1 ⟨rfl, hb⟩
  go_wp2_with fail
  refine (cw _).mono ?_
  rintro e w2 ⟨rfl, rfl⟩
  go_wp2_with fail
  go_ret
  exact ⟨rfl, below_more (((Below.refl _ _).alloc (Nat.le_refl _) _).alloc (by simp) _) hb (by simp)⟩
set_option maxRecDepth 100000 in
set_option maxHeartbeats 1000000 in
theorem flows_any (a b : LabD) (r : Bool) (ha : a.ok) (hb : b.ok) (hr : flowsB a b = r) (w : World) :
    Calls Tryz.prog 9 #[labV a, labV b] w fun e w' => e = .returned (.bool r) ∧ Below w.heap.size w w' := by
  have cw := with_any a b 0 r ha hb (by decide) hr
  obtain ⟨x, y⟩ := a
  obtain ⟨x', y'⟩ := b
  clear ha hb hr
  unfold labV at *
  rw [Int.natCast_zero] at cw
  go_enter Tryz.func9, Tryz.ntmps9
  go_wp2_with fail
  refine (cw _).mono ?_
  rintro e w1 ⟨rfl, hb⟩
  go_wp2_with fail
  go_ret
  exact ⟨rfl, below_more (((Below.refl _ _).alloc (Nat.le_refl _) _).alloc (by simp) _) hb (by simp)⟩
set_option maxRecDepth 100000 in
set_option maxHeartbeats 1000000 in
theorem join_any (a b c : LabD) (ha : a.ok) (hb : b.ok) (hc : joinD a b = c) (w : World) :
    Calls Tryz.prog 14 #[labV a, labV b] w fun e w' => e = .returned (labV c) ∧ Below w.heap.size w w' := by
  obtain ⟨x, y⟩ := a
  obtain ⟨x', y'⟩ := b
  subst hc
  have h1 : bits .or .u64 (x : Int) (x' : Int) = ((x ||| x' : Nat) : Int) := bits_or_u64_nat x x' ha.1 hb.1
  have h2 : bits .and .u64 (y : Int) (y' : Int) = ((y &&& y' : Nat) : Int) := u64_and_nat y y' ha.2 hb.2
  show Calls Tryz.prog 14 #[labV ⟨x, y⟩, labV ⟨x', y'⟩] w fun e w' => e = .returned (labV ⟨x ||| x', y &&& y'⟩) ∧ Below w.heap.size w w'
  generalize x ||| x' = p at *
  generalize y &&& y' = q at *
  clear ha hb
  unfold labV
  go_enter Tryz.func14, Tryz.ntmps14
  go_wp2
  refine bodyPost_ret (v := .agg #[.int .u64 p, .int .u64 q]) ?_ rfl ⟨rfl, ?_⟩
  · simp [results, Tryz.results14, go_sem]
  · repeat first | exact Below.refl _ _ | refine below_sc7 ?_ (by simp) _ | refine Below.drew ?_ | refine Below.alloc ?_ (by first | (simp; done) | (simp; omega)) _
set_option maxRecDepth 100000 in
set_option maxHeartbeats 1000000 in
theorem meet_any (a b c : LabD) (ha : a.ok) (hb : b.ok) (hc : meetD a b = c) (w : World) :
    Calls Tryz.prog 16 #[labV a, labV b] w fun e w' => e = .returned (labV c) ∧ Below w.heap.size w w' := by
  obtain ⟨x, y⟩ := a
  obtain ⟨x', y'⟩ := b
  subst hc
  have h1 : bits .and .u64 (x : Int) (x' : Int) = ((x &&& x' : Nat) : Int) := u64_and_nat x x' ha.1 hb.1
  have h2 : bits .or .u64 (y : Int) (y' : Int) = ((y ||| y' : Nat) : Int) := bits_or_u64_nat y y' ha.2 hb.2
  show Calls Tryz.prog 16 #[labV ⟨x, y⟩, labV ⟨x', y'⟩] w fun e w' => e = .returned (labV ⟨x &&& x', y ||| y'⟩) ∧ Below w.heap.size w w'
  generalize x &&& x' = p at *
  generalize y ||| y' = q at *
  clear ha hb
  unfold labV
  go_enter Tryz.func16, Tryz.ntmps16
  go_wp2
  refine bodyPost_ret (v := .agg #[.int .u64 p, .int .u64 q]) ?_ rfl ⟨rfl, ?_⟩
  · simp [results, Tryz.results16, go_sem]
  · repeat first | exact Below.refl _ _ | refine below_sc7 ?_ (by simp) _ | refine Below.drew ?_ | refine Below.alloc ?_ (by first | (simp; done) | (simp; omega)) _
set_option maxRecDepth 100000 in
set_option maxHeartbeats 1000000 in
theorem raise_any (a c : LabD) (u v : Nat) (ha : a.ok) (hu : u < 18446744073709551616) (hv : v < 18446744073709551616) (hc : raiseD a u v = c) (w : World) :
    Calls Tryz.prog 18 #[labV a, .int .u64 u, .int .u64 v] w fun e w' => e = .returned (labV c) ∧ Below w.heap.size w w' := by
  obtain ⟨x, y⟩ := a
  subst hc
  have h1 : bits .or .u64 (x : Int) (u : Int) = ((x ||| u : Nat) : Int) := bits_or_u64_nat x u ha.1 hu
  have c1 := minus_any y v (minus y v) ha.2 hv rfl
  show Calls Tryz.prog 18 #[labV ⟨x, y⟩, .int .u64 u, .int .u64 v] w fun e w' => e = .returned (labV ⟨x ||| u, minus y v⟩) ∧ Below w.heap.size w w'
  generalize x ||| u = p at *
  generalize minus y v = q at *
  clear ha hu hv
  unfold labV
  go_enter Tryz.func18, Tryz.ntmps18
  go_wp2
  go_region_with ((go_at_call 33; refine (c1 _).mono ?_; rintro e w' ⟨rfl, rfl⟩))
  all_goals
    go_wp2
    refine bodyPost_ret (v := .agg #[.int .u64 p, .int .u64 q]) ?_ rfl ⟨rfl, ?_⟩
    · simp [results, Tryz.results18, go_sem]
    · repeat first | exact Below.refl _ _ | refine below_sc7 ?_ (by simp) _ | refine Below.drew ?_ | refine Below.alloc ?_ (by first | (simp; done) | (simp; omega)) _
end Go.Proofs.YtcodphddkkjocaaGreatDoor
