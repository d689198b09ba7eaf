/- Calls of layer 7 in later worlds; labels boxed one after the other. -/
import Derived.Test.YtcodphddkkjocaaGreatDoorUe
import Derived.Test.YtcodphddkkjocaaGreatDoorUf
namespace Go.Proofs.YtcodphddkkjocaaGreatDoor
open Go.RowKit
set_option linter.unusedVariables false

theorem flows_late (a b : LabD) (r : Bool) (ha : a.ok) (hb : b.ok) (hr : flowsB a b = r) (W0 W : World) (h : Later W0 W) :
    Calls Tryz.prog 9 #[.agg #[.int .u64 a.s, .int .u64 a.t], .agg #[.int .u64 b.s, .int .u64 b.t]] W fun e w' => e = .returned (.bool r) ∧ Later W0 w' := lift_later W0 (fun W => flows_any a b r ha hb hr W) W h
theorem with_late (a b : LabD) (o : Nat) (r : Bool) (ha : a.ok) (hb : b.ok) (ho : okW64 o) (hr : withB a b o = r) (W0 W : World) (h : Later W0 W) :
    Calls Tryz.prog 11 #[.agg #[.int .u64 a.s, .int .u64 a.t], .agg #[.int .u64 b.s, .int .u64 b.t], .int .u64 o] W fun e w' => e = .returned (.bool r) ∧ Later W0 w' := lift_later W0 (fun W => with_any a b o r ha hb ho hr W) W h
theorem need_late (a b : LabD) (n : Nat) (ha : a.ok) (hb : b.ok) (hn : needN a b = n) (W0 W : World) (h : Later W0 W) :
    Calls Tryz.prog 12 #[.agg #[.int .u64 a.s, .int .u64 a.t], .agg #[.int .u64 b.s, .int .u64 b.t]] W fun e w' => e = .returned (.int .u64 n) ∧ Later W0 w' := lift_later W0 (fun W => need_any a b n ha hb hn W) W h
theorem join_late (a b c : LabD) (ha : a.ok) (hb : b.ok) (hc : joinD a b = c) (W0 W : World) (h : Later W0 W) :
    Calls Tryz.prog 14 #[.agg #[.int .u64 a.s, .int .u64 a.t], .agg #[.int .u64 b.s, .int .u64 b.t]] W fun e w' => e = .returned (.agg #[.int .u64 c.s, .int .u64 c.t]) ∧ Later W0 w' := lift_later W0 (fun W => join_any a b c ha hb hc W) W h
theorem meet_late (a b c : LabD) (ha : a.ok) (hb : b.ok) (hc : meetD a b = c) (W0 W : World) (h : Later W0 W) :
    Calls Tryz.prog 16 #[.agg #[.int .u64 a.s, .int .u64 a.t], .agg #[.int .u64 b.s, .int .u64 b.t]] W fun e w' => e = .returned (.agg #[.int .u64 c.s, .int .u64 c.t]) ∧ Later W0 w' := lift_later W0 (fun W => meet_any a b c ha hb hc W) W h
theorem raise_late (a c : LabD) (u v : Nat) (ha : a.ok) (hu : okW64 u) (hv : okW64 v) (hc : raiseD a u v = c) (W0 W : World) (h : Later W0 W) :
    Calls Tryz.prog 18 #[.agg #[.int .u64 a.s, .int .u64 a.t], .int .u64 u, .int .u64 v] W fun e w' => e = .returned (.agg #[.int .u64 c.s, .int .u64 c.t]) ∧ Later W0 w' := lift_later W0 (fun W => raise_any a c u v ha hu hv hc W) W h
/-- Labels boxed one after the other. -/
structure Two7 (W : World) (m : Nat) (a b : LabD) : Prop where
  a : LabBox W m a.s a.t
  b : LabBox W (m + 1) b.s b.t
structure Three7 (W : World) (m : Nat) (a b c : LabD) : Prop where
  a : LabBox W m a.s a.t
  b : LabBox W (m + 1) b.s b.t
  c : LabBox W (m + 2) c.s c.t
theorem LabBox.later {W W' : World} {b x y : Nat} (h : LabBox W b x y) (hb : Later W W') : LabBox W' b x y := h.below hb.b h.lt
theorem Two7.later {W W' : World} {m : Nat} {a b : LabD} (h : Two7 W m a b) (hb : Later W W') : Two7 W' m a b := ⟨h.a.later hb, h.b.later hb⟩
theorem Three7.later {W W' : World} {m : Nat} {a b c : LabD} (h : Three7 W m a b c) (hb : Later W W') : Three7 W' m a b c := ⟨h.a.later hb, h.b.later hb, h.c.later hb⟩
theorem later_alloc (W : World) (o : Obj) : Later W (W.alloc o) := (Later.refl W).alloc o
theorem two_new (w : World) (a b : LabD) (t : TypeId) : Two7 ((w.alloc (.cells #[.int .u64 a.s, .int .u64 a.t] t)).alloc (.cells #[.int .u64 b.s, .int .u64 b.t] t)) w.heap.size a b := by
  have h1 := LabBox.new w a.s a.t t
  have h2 := LabBox.new (w.alloc (.cells #[.int .u64 a.s, .int .u64 a.t] t)) b.s b.t t
  simp only [World.size_alloc] at h2
  exact ⟨h1.later (later_alloc _ _), h2⟩
theorem three_new (w : World) (a b c : LabD) (t : TypeId) : Three7 (((w.alloc (.cells #[.int .u64 a.s, .int .u64 a.t] t)).alloc (.cells #[.int .u64 b.s, .int .u64 b.t] t)).alloc (.cells #[.int .u64 c.s, .int .u64 c.t] t)) w.heap.size a b c := by
  have h1 := two_new w a b t
  have h3 := LabBox.new ((w.alloc (.cells #[.int .u64 a.s, .int .u64 a.t] t)).alloc (.cells #[.int .u64 b.s, .int .u64 b.t] t)) c.s c.t t
  simp only [World.size_alloc] at h3
  exact ⟨h1.a.later (later_alloc _ _), h1.b.later (later_alloc _ _), h3⟩
theorem one_below (w : World) (o : Obj) : Below w.heap.size w (w.alloc o) := (Below.refl _ w).alloc (Nat.le_refl _) _
theorem two_below (w : World) (o o' : Obj) : Below w.heap.size w ((w.alloc o).alloc o') := (one_below w o).alloc (by simp) _
theorem three_below (w : World) (o o' o'' : Obj) : Below w.heap.size w (((w.alloc o).alloc o').alloc o'') := (two_below w o o').alloc (by simp; omega) _
theorem box_facts {W0 : World} {m x y : Nat} (h : LabBox W0 m x y) (W : World) (hW : Later W0 W) : W.cell? ⟨m, 0, none⟩ = some (.int .u64 x) ∧ W.cell? ⟨m, 1, none⟩ = some (.int .u64 y) := ⟨(h.later hW).c0, (h.later hW).c1⟩
end Go.Proofs.YtcodphddkkjocaaGreatDoor
