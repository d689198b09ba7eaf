/- Worlds behind a world: calls there; the two labels compared; alive. -/
import Derived.Test.YtcodphddkkjocaaGreatDoorUd
import Derived.Laws.StructEq
namespace Go.Proofs.YtcodphddkkjocaaGreatDoor
open Go.RowKit
set_option linter.unusedVariables false

/-- A later world: all that lay in W0 lies there. -/
structure Later (W0 W : World) : Prop where
  b : Below W0.heap.size W0 W
theorem Later.refl (W0 : World) : Later W0 W0 := ⟨Below.refl _ _⟩
theorem Later.more {W0 W W' : World} (h : Later W0 W) (k : Below W.heap.size W W') : Later W0 W' := ⟨below_more h.b k (Nat.le_refl _)⟩
theorem Later.drew {W0 W : World} (h : Later W0 W) : Later W0 W.drew := ⟨h.b.drew⟩
theorem Later.alloc {W0 W : World} (h : Later W0 W) (o : Obj) : Later W0 (W.alloc o) := ⟨h.b.alloc h.b.size o⟩
theorem lift_later {f : FuncId} {args : Array Value} {v : Value} (W0 : World) (h : ∀ W, Calls Tryz.prog f args W fun e w' => e = .returned v ∧ Below W.heap.size W w') : ∀ W, Later W0 W → Calls Tryz.prog f args W fun e w' => e = .returned v ∧ Later W0 w' := fun W hW =>
  (h W).mono fun e w' ⟨he, hb⟩ => ⟨he, hW.more hb⟩
theorem lift_laterG {f : FuncId} {args : Array Value} {v : Value} (W0 : World) (hG : Gnd7 W0) (h : ∀ W, Gnd7 W → Calls Tryz.prog f args W fun e w' => e = .returned v ∧ Below W.heap.size W w') : ∀ W, Later W0 W → Calls Tryz.prog f args W fun e w' => e = .returned v ∧ Later W0 w' := fun W hW =>
  (h W (hG.below hW.b)).mono fun e w' ⟨he, hb⟩ => ⟨he, hW.more hb⟩
theorem labD_ext {a b : LabD} (h : a.s = b.s) (k : a.t = b.t) : a = b := by
  cases a; cases b
  simp_all
/-- Are two labels one? -/
def eqL (a b : LabD) : Bool := ((a.s : Int) == (b.s : Int)) && ((a.t : Int) == (b.t : Int))
theorem eqL_iff (a b : LabD) : eqL a b = true ↔ a = b := by
  cases a; cases b
  simp [eqL, Int.natCast_inj]
set_option maxRecDepth 100000 in
theorem run_eqL (x y x' y' : Int) (w : World) : (binOp .eql 24 (.agg #[.int .u64 x, .int .u64 y]) (.agg #[.int .u64 x', .int .u64 y'])).run Tryz.prog w = .ok (.bool (x == x' && y == y')) w := by
  rw [run_eql_struct, run_equalIn_agg _ _ _ _ _ Tryz.underlying24 (by kernel_rfl)]
  cases h0 : (x == x') <;> cases h1 : (y == y') <;> simp [Program.fieldsOf, Tryz.underlying24, Op.eqFields, part, isAgg, run_underlying Tryz.underlying22, run_equalIn_int _ _ 22 .u64 .u64 _ _ Tryz.underlying22, h0, h1, Sem.run_bind]
set_option maxRecDepth 100000 in
theorem run_neL (x y x' y' : Int) (w : World) : (binOp .neq 24 (.agg #[.int .u64 x, .int .u64 y]) (.agg #[.int .u64 x', .int .u64 y'])).run Tryz.prog w = .ok (.bool (!(x == x' && y == y'))) w := by
  rw [run_neq_struct, run_equalIn_agg _ _ _ _ _ Tryz.underlying24 (by kernel_rfl)]
  cases h0 : (x == x') <;> cases h1 : (y == y') <;> simp [Program.fieldsOf, Tryz.underlying24, Op.eqFields, part, isAgg, run_underlying Tryz.underlying22, run_equalIn_int _ _ 22 .u64 .u64 _ _ Tryz.underlying22, h0, h1, Sem.run_bind]

theorem rd1 : readD [115, 58, 48, 45, 49, 32, 116, 58, 110, 111, 110, 101] = (⟨3, 0⟩, true) := by
  have h : labT 3 0 = [115, 58, 48, 45, 49, 32, 116, 58, 110, 111, 110, 101] := by decide +kernel
  rw [← h]
  exact readD_text 3 0 (by decide) (by decide)
theorem lt1 : labT 3 0 = [115, 58, 48, 45, 49, 32, 116, 58, 110, 111, 110, 101] := by decide +kernel
theorem fb (x y : Nat) (hx : x < 18446744073709551616) (hy : y < 18446744073709551616) : (labB ⟨x, y⟩).length = 16 ∧ isBytes (labB ⟨x, y⟩) ∧ fromN ((labB ⟨x, y⟩).take 8) = x ∧ fromN ((labB ⟨x, y⟩).drop 8) = y := by
  have l1 := bytesL_length x 8
  have l2 := bytesL_length y 8
  have z : ∀ u, u < 18446744073709551616 → u / 2 ^ (8 * 8) = 0 := fun u hu => by
    apply Nat.div_eq_of_lt
    exact hu
  show (bytesL x 8 ++ bytesL y 8).length = 16 ∧ isBytes (bytesL x 8 ++ bytesL y 8) ∧ fromN ((bytesL x 8 ++ bytesL y 8).take 8) = x ∧ fromN ((bytesL x 8 ++ bytesL y 8).drop 8) = y
  rw [List.take_left' l1, List.drop_left' l1, from_bytes 8 x (z x hx), from_bytes 8 y (z y hy)]
  refine ⟨by rw [List.length_append, l1, l2], fun q hq => ?_, rfl, rfl⟩
  rcases List.mem_append.1 hq with h | h
  · exact bytesL_bytes x 8 q h
  · exact bytesL_bytes y 8 q h
/-- What From answers of a label's own bytes. -/
theorem from_own (x y : Nat) (hx : x < 18446744073709551616) (hy : y < 18446744073709551616) (A : Option Addr) (c : Nat) (W : World) (g : Good A c (labB ⟨x, y⟩) W) :
    Calls Tryz.prog 5 #[.slice A 16 c] W fun e w' => e = .returned (.tuple #[.agg #[.int .u64 x, .int .u64 y], .bool true]) ∧ Below W.heap.size W w' := by
  obtain ⟨h1, h2, h3, h4⟩ := fb x y hx hy
  obtain ⟨b, off, rfl⟩ := g.some (by omega)
  have := labFrom_yes b off c _ h2 h1 W g
  rw [h3, h4] at this
  exact this
/-- Bytes: 16 of them, in a row. -/
theorem bytes_own (x y : Nat) (hx : x < 18446744073709551616) (hy : y < 18446744073709551616) (W : World) :
    Calls Tryz.prog 21 #[.agg #[.int .u64 x, .int .u64 y]] W fun e w' => ∃ A c, e = .returned (.slice A 16 c) ∧ Good A c (labB ⟨x, y⟩) w' ∧ Below W.heap.size W w' := by
  refine (labBytes_any ⟨x, y⟩ ⟨hx, hy⟩ W).mono ?_
  rintro e w' ⟨v, rfl, hown, hb⟩
  obtain ⟨A, c, rfl, g⟩ := hown.good
  rw [(fb x y hx hy).1]
  exact ⟨A, c, rfl, g, hb⟩
/-- Two boxed labels in a world. -/
theorem boxes_at {W : World} {b x y : Nat} (h : LabBox W b x y) : W.cell? ⟨b, 0, none⟩ = some (.int .u64 x) ∧ W.cell? ⟨b, 1, none⟩ = some (.int .u64 y) := ⟨h.c0, h.c1⟩
set_option maxRecDepth 100000 in
set_option maxHeartbeats 2000000 in
theorem alive7_any (w : World) (hG : Gnd7 w) : Calls Tryz.prog 4 #[] w fun e w' => e = .returned (.bool true) ∧ Below w.heap.size w w' := by
  have a1 : LabBox (w.alloc (.cells #[.int .u64 2, .int .u64 0] 24)) w.heap.size 2 0 := LabBox.new w 2 0 _
  have a2 : LabBox ((w.alloc (.cells #[.int .u64 2, .int .u64 0] 24)).alloc (.cells #[.int .u64 3, .int .u64 0] 24)) w.heap.size 2 0 := a1.below (Below.alloc (Below.refl _ _) (Nat.le_refl _) _) (by simp)
  have b2 : LabBox ((w.alloc (.cells #[.int .u64 2, .int .u64 0] 24)).alloc (.cells #[.int .u64 3, .int .u64 0] 24)) (w.heap.size + 1) 3 0 := by
    have := LabBox.new (w.alloc (.cells #[.int .u64 2, .int .u64 0] 24)) 3 0 24
    rwa [World.size_alloc] at this
  have k2 : Below w.heap.size w ((w.alloc (.cells #[.int .u64 2, .int .u64 0] 24)).alloc (.cells #[.int .u64 3, .int .u64 0] 24)) := ((Below.refl _ w).alloc (Nat.le_refl _) _).alloc (by simp) _
  have g2 := hG.below k2
  have cR : ∀ W, Gnd7 W → Calls Tryz.prog 7 #[.string ⟨#[115, 58, 48, 45, 49, 32, 116, 58, 110, 111, 110, 101]⟩] W fun e w' => e = .returned (.tuple #[.agg #[.int .u64 3, .int .u64 0], .bool true]) ∧ Below W.heap.size W w' := fun W h => labRead_any _ _ _ (by decide) rd1 W h
  clear a1
  go_enter Tryz.func4, Tryz.ntmps4
  go_wp2_with fail
  refine (cR _ g2).mono ?_
  rintro e w1 ⟨rfl, j1⟩
  have a3 := a2.below j1 a2.lt
  have b3 := b2.below j1 b2.lt
  have k3 := below_more k2 j1 (Nat.le_refl _)
  generalize w.heap.size + 1 = bB at *
  clear a2 b2 k2 g2 cR j1
  have x4 : LabBox (w1.alloc (.cells #[.int .u64 3, .int .u64 0] 24)) w1.heap.size 3 0 := LabBox.new w1 3 0 _
  have j2 : Below w1.heap.size w1 (w1.alloc (.cells #[.int .u64 3, .int .u64 0] 24)) := (Below.refl _ _).alloc (Nat.le_refl _) _
  have a4 := a3.below j2 a3.lt
  have b4 := b3.below j2 b3.lt
  have k4 := below_more k3 j2 (Nat.le_refl _)
  clear a3 b3 k3 j2
  have hb0 : (w1.alloc (.cells #[.int .u64 3, .int .u64 0] 24)).cell? ⟨bB, 0, none⟩ = some (.int .u64 3) := b4.c0
  have hb1 : (w1.alloc (.cells #[.int .u64 3, .int .u64 0] 24)).cell? ⟨bB, 1, none⟩ = some (.int .u64 0) := b4.c1
  have cB : ∀ W, Calls Tryz.prog 21 #[.agg #[.int .u64 3, .int .u64 0]] W fun e w' => ∃ A c, e = .returned (.slice A 16 c) ∧ Good A c (labB ⟨3, 0⟩) w' ∧ Below W.heap.size W w' := bytes_own 3 0 (by decide) (by decide)
  have cF : ∀ A c W, Good A c (labB ⟨3, 0⟩) W → Calls Tryz.prog 5 #[.slice A 16 c] W fun e w' => e = .returned (.tuple #[.agg #[.int .u64 3, .int .u64 0], .bool true]) ∧ Below W.heap.size W w' := from_own 3 0 (by decide) (by decide)
  go_wp2_with fail
  refine (cB _).mono ?_
  rintro e w2 ⟨A, c, rfl, gd, j3⟩
  go_wp2_with fail
  refine (cF _ _ _ gd).mono ?_
  rintro e w3 ⟨rfl, j4⟩
  have j5 := below_more j3 j4 (Nat.le_refl _)
  have x5 := x4.below j5 x4.lt
  have a5 := a4.below j5 a4.lt
  have b5 := b4.below j5 b4.lt
  have k5 := below_more k4 j5 (Nat.le_refl _)
  generalize w1.heap.size = xB at *
  clear hb0 hb1 cB cF gd j3 j4 j5 x4 a4 b4 k4
  have y6 : LabBox (w3.alloc (.cells #[.int .u64 3, .int .u64 0] 24)) w3.heap.size 3 0 := LabBox.new w3 3 0 _
  have j2 : Below w3.heap.size w3 (w3.alloc (.cells #[.int .u64 3, .int .u64 0] 24)) := (Below.refl _ _).alloc (Nat.le_refl _) _
  have x6 := x5.below j2 x5.lt
  have a6 := a5.below j2 a5.lt
  have b6 := b5.below j2 b5.lt
  have k6 := below_more k5 j2 (Nat.le_refl _)
  clear x5 a5 b5 k5 j2
  go_wp2_with fail
  have hG0 := hG.below k6
  generalize w3.heap.size = yB at *
  generalize w3.alloc (.cells #[.int .u64 3, .int .u64 0] 24) = W0 at *
  generalize w.heap.size = aB at a6 ⊢
  have l0 := (Later.refl W0).drew
  have t0 : ∀ w', Later W0 w' → (w'.cell? ⟨aB, 0, none⟩ = some (.int .u64 2) ∧ w'.cell? ⟨aB, 1, none⟩ = some (.int .u64 0) ∧ w'.cell? ⟨bB, 0, none⟩ = some (.int .u64 3) ∧ w'.cell? ⟨bB, 1, none⟩ = some (.int .u64 0) ∧ w'.cell? ⟨xB, 0, none⟩ = some (.int .u64 3) ∧ w'.cell? ⟨xB, 1, none⟩ = some (.int .u64 0) ∧ w'.cell? ⟨yB, 0, none⟩ = some (.int .u64 3) ∧ w'.cell? ⟨yB, 1, none⟩ = some (.int .u64 0)) := fun W h =>
    have a := a6.below h.b a6.lt
    have b := b6.below h.b b6.lt
    have x := x6.below h.b x6.lt
    have y := y6.below h.b y6.lt
    ⟨a.c0, a.c1, b.c0, b.c1, x.c0, x.c1, y.c0, y.c1⟩
  have c1 : ∀ W, Later W0 W → Calls Tryz.prog 9 #[.agg #[.int .u64 2, .int .u64 0], .agg #[.int .u64 3, .int .u64 0]] W fun e w' => e = .returned (.bool true) ∧ Later W0 w' := lift_later W0 (fun W => flows_any ⟨2, 0⟩ ⟨3, 0⟩ true ⟨by decide, by decide⟩ ⟨by decide, by decide⟩ (by decide +kernel) W)
  have c2 : ∀ W, Later W0 W → Calls Tryz.prog 9 #[.agg #[.int .u64 3, .int .u64 0], .agg #[.int .u64 2, .int .u64 0]] W fun e w' => e = .returned (.bool false) ∧ Later W0 w' := lift_later W0 (fun W => flows_any ⟨3, 0⟩ ⟨2, 0⟩ false ⟨by decide, by decide⟩ ⟨by decide, by decide⟩ (by decide +kernel) W)
  have c3 : ∀ W, Later W0 W → Calls Tryz.prog 11 #[.agg #[.int .u64 3, .int .u64 0], .agg #[.int .u64 2, .int .u64 0], .int .u64 1] W fun e w' => e = .returned (.bool true) ∧ Later W0 w' := lift_later W0 (fun W => with_any ⟨3, 0⟩ ⟨2, 0⟩ 1 true ⟨by decide, by decide⟩ ⟨by decide, by decide⟩ (by decide) (by decide +kernel) W)
  have c4 : ∀ W, Later W0 W → Calls Tryz.prog 12 #[.agg #[.int .u64 3, .int .u64 0], .agg #[.int .u64 2, .int .u64 0]] W fun e w' => e = .returned (.int .u64 1) ∧ Later W0 w' := lift_later W0 (fun W => need_any ⟨3, 0⟩ ⟨2, 0⟩ 1 ⟨by decide, by decide⟩ ⟨by decide, by decide⟩ (by decide +kernel) W)
  have c5 : ∀ W, Later W0 W → Calls Tryz.prog 14 #[.agg #[.int .u64 2, .int .u64 0], .agg #[.int .u64 3, .int .u64 0]] W fun e w' => e = .returned (.agg #[.int .u64 3, .int .u64 0]) ∧ Later W0 w' := lift_later W0 (fun W => join_any ⟨2, 0⟩ ⟨3, 0⟩ ⟨3, 0⟩ ⟨by decide, by decide⟩ ⟨by decide, by decide⟩ (labD_ext (by decide +kernel) (by decide +kernel)) W)
  have c6 : ∀ W, Later W0 W → Calls Tryz.prog 16 #[.agg #[.int .u64 2, .int .u64 0], .agg #[.int .u64 3, .int .u64 0]] W fun e w' => e = .returned (.agg #[.int .u64 2, .int .u64 0]) ∧ Later W0 w' := lift_later W0 (fun W => meet_any ⟨2, 0⟩ ⟨3, 0⟩ ⟨2, 0⟩ ⟨by decide, by decide⟩ ⟨by decide, by decide⟩ (labD_ext (by decide +kernel) (by decide +kernel)) W)
  have c7 : ∀ W, Later W0 W → Calls Tryz.prog 18 #[.agg #[.int .u64 2, .int .u64 0], .int .u64 1, .int .u64 0] W fun e w' => e = .returned (.agg #[.int .u64 3, .int .u64 0]) ∧ Later W0 w' := lift_later W0 (fun W => raise_any ⟨2, 0⟩ ⟨3, 0⟩ 1 0 ⟨by decide, by decide⟩ (by decide) (by decide) (labD_ext (by decide +kernel) (by decide +kernel)) W)
  have c8 : ∀ W, Later W0 W → Calls Tryz.prog 23 #[.agg #[.int .u64 3, .int .u64 0]] W fun e w' => e = .returned (.string ⟨#[115, 58, 48, 45, 49, 32, 116, 58, 110, 111, 110, 101]⟩) ∧ Later W0 w' := lift_laterG W0 hG0 (fun W h => by have := labShow_any 3 0 (by decide) (by decide) W h; rw [lt1] at this; exact this)
  have c9 : ∀ W, Later W0 W → Calls Tryz.prog 9 #[.agg #[.int .u64 0, .int .u64 0], .agg #[.int .u64 0, .int .u64 4]] W fun e w' => e = .returned (.bool false) ∧ Later W0 w' := lift_later W0 (fun W => flows_any ⟨0, 0⟩ ⟨0, 4⟩ false ⟨by decide, by decide⟩ ⟨by decide, by decide⟩ (by decide +kernel) W)
  have e1 : ∀ W, (binOp .eql 24 (.agg #[.int .u64 3, .int .u64 0]) (.agg #[.int .u64 3, .int .u64 0])).run Tryz.prog W = .ok (.bool true) W := fun W => run_eqL 3 0 3 0 W
  have e2 : ∀ W, (binOp .eql 24 (.agg #[.int .u64 2, .int .u64 0]) (.agg #[.int .u64 2, .int .u64 0])).run Tryz.prog W = .ok (.bool true) W := fun W => run_eqL 2 0 2 0 W
  clear a6 b6 x6 y6 hG hG0
  simp only [List.append_eq, List.cons_append, List.nil_append]
  go_region_held3 (fun w' => (w'.cell? ⟨aB, 0, none⟩ = some (.int .u64 2) ∧ w'.cell? ⟨aB, 1, none⟩ = some (.int .u64 0) ∧ w'.cell? ⟨bB, 0, none⟩ = some (.int .u64 3) ∧ w'.cell? ⟨bB, 1, none⟩ = some (.int .u64 0) ∧ w'.cell? ⟨xB, 0, none⟩ = some (.int .u64 3) ∧ w'.cell? ⟨xB, 1, none⟩ = some (.int .u64 0) ∧ w'.cell? ⟨yB, 0, none⟩ = some (.int .u64 3) ∧ w'.cell? ⟨yB, 1, none⟩ = some (.int .u64 0))) (first | assumption | exact t0 _ (by assumption)) (first | (rw [if_pos (by rfl)]; go_simp; (first | (go_at_call 9; first | ((with_reducible refine (c1 _ (by assumption)).mono ?_); rintro e w' ⟨rfl, hk⟩) | ((with_reducible refine (c2 _ (by assumption)).mono ?_); rintro e w' ⟨rfl, hk⟩) | ((with_reducible refine (c9 _ (by assumption)).mono ?_); rintro e w' ⟨rfl, hk⟩)) | (go_at_call 11; first | ((with_reducible refine (c3 _ (by assumption)).mono ?_); rintro e w' ⟨rfl, hk⟩)) | (go_at_call 12; first | ((with_reducible refine (c4 _ (by assumption)).mono ?_); rintro e w' ⟨rfl, hk⟩)) | (go_at_call 14; first | ((with_reducible refine (c5 _ (by assumption)).mono ?_); rintro e w' ⟨rfl, hk⟩)) | (go_at_call 16; first | ((with_reducible refine (c6 _ (by assumption)).mono ?_); rintro e w' ⟨rfl, hk⟩)) | (go_at_call 18; first | ((with_reducible refine (c7 _ (by assumption)).mono ?_); rintro e w' ⟨rfl, hk⟩)) | (go_at_call 23; first | ((with_reducible refine (c8 _ (by assumption)).mono ?_); rintro e w' ⟨rfl, hk⟩)))) | (first | (go_at_call 9; first | ((with_reducible refine (c1 _ (by assumption)).mono ?_); rintro e w' ⟨rfl, hk⟩) | ((with_reducible refine (c2 _ (by assumption)).mono ?_); rintro e w' ⟨rfl, hk⟩) | ((with_reducible refine (c9 _ (by assumption)).mono ?_); rintro e w' ⟨rfl, hk⟩)) | (go_at_call 11; first | ((with_reducible refine (c3 _ (by assumption)).mono ?_); rintro e w' ⟨rfl, hk⟩)) | (go_at_call 12; first | ((with_reducible refine (c4 _ (by assumption)).mono ?_); rintro e w' ⟨rfl, hk⟩)) | (go_at_call 14; first | ((with_reducible refine (c5 _ (by assumption)).mono ?_); rintro e w' ⟨rfl, hk⟩)) | (go_at_call 16; first | ((with_reducible refine (c6 _ (by assumption)).mono ?_); rintro e w' ⟨rfl, hk⟩)) | (go_at_call 18; first | ((with_reducible refine (c7 _ (by assumption)).mono ?_); rintro e w' ⟨rfl, hk⟩)) | (go_at_call 23; first | ((with_reducible refine (c8 _ (by assumption)).mono ?_); rintro e w' ⟨rfl, hk⟩))))
  go_wp2
  go_ret
  exact ⟨rfl, below_more k6 (Later.b (by assumption)) (Nat.le_refl _)⟩
end Go.Proofs.YtcodphddkkjocaaGreatDoor
