/- rec.readVals: two values of 17 bytes. -/
import Derived.Test.YtdmkkfpbgpijjaaGreatWaj
namespace Go.Proofs.YtdmkkfpbgpijjaaGreat
open Go.RowKit Go.Deep
set_option linter.unusedVariables false

/-- A value lies in a block. -/
structure ValAt (W : World) (b : Nat) (t : Bool) (n : Int) : Prop where
  c0 : W.cell? ⟨b, 0, none⟩ = some (.bool t)
  c1 : W.cell? ⟨b, 1, none⟩ = some (.int .i64 n)
  f0 : W.frozen? ⟨b, 0, none⟩ = false
  f1 : W.frozen? ⟨b, 1, none⟩ = false
theorem ValAt.below {W W' : World} {b B : Nat} {t : Bool} {n : Int} (h : ValAt W b t n) (hb : Below B W W') (hB : b < B) : ValAt W' b t n :=
  ⟨(hb.cell (p := ⟨b, 0, none⟩) hB).trans h.c0, (hb.cell (p := ⟨b, 1, none⟩) hB).trans h.c1, (hb.frozen (p := ⟨b, 0, none⟩) hB).trans h.f0, (hb.frozen (p := ⟨b, 1, none⟩) hB).trans h.f1⟩
set_option maxRecDepth 100000 in
theorem valAt_new (w : World) (t : Bool) (n : Int) : ValAt (w.alloc (.cells #[.bool t, .int .i64 n] 61)) w.heap.size t n := by
  constructor <;> simp [go_sem]
/-- A value stored. -/
theorem ValAt.set {W : World} {b : Nat} {t : Bool} {n : Int} (h : ValAt W b t n) (t' : Bool) (n' : Int) : ValAt ((W.setCell ⟨b, 0, none⟩ (.bool t')).setCell ⟨b, 1, none⟩ (.int .i64 n')) b t' n' := by
  have h1 : (W.setCell ⟨b, 0, none⟩ (.bool t')).cell? ⟨b, 1, none⟩ = some (.int .i64 n) := by
    rw [World.cell?_setCell_other _ _ _ _ (by simp)]
    exact h.c1
  refine ⟨?_, World.cell?_setCell_same _ _ _ h1, ?_, ?_⟩
  · rw [World.cell?_setCell_other _ _ _ _ (by simp)]
    exact World.cell?_setCell_same _ _ _ h.c0
  · rw [World.frozen?_setCell, World.frozen?_setCell]; exact h.f0
  · rw [World.frozen?_setCell, World.frozen?_setCell]; exact h.f1
theorem cell_set2 (W : World) (b : Nat) (v v' : Value) (d i : Nat) (h : d ≠ b) : ((W.setCell ⟨b, 0, none⟩ v).setCell ⟨b, 1, none⟩ v').cell? ⟨d, i, none⟩ = W.cell? ⟨d, i, none⟩ := by
  have h2 : (⟨b, 1, none⟩ : Addr) ≠ ⟨d, i, none⟩ := fun e => h (by injection e with e; exact e.symm)
  have h3 : (⟨b, 0, none⟩ : Addr) ≠ ⟨d, i, none⟩ := fun e => h (by injection e with e; exact e.symm)
  rw [World.cell?_setCell_other _ _ _ _ h2, World.cell?_setCell_other _ _ _ _ h3]
theorem ValAt.other {W : World} {b d : Nat} {t : Bool} {n : Int} (h : ValAt W d t n) (hd : d ≠ b) (v v' : Value) : ValAt ((W.setCell ⟨b, 0, none⟩ v).setCell ⟨b, 1, none⟩ v') d t n :=
  ⟨(cell_set2 W b v v' d 0 hd).trans h.c0, (cell_set2 W b v v' d 1 hd).trans h.c1, (by rw [World.frozen?_setCell, World.frozen?_setCell]; exact h.f0), (by rw [World.frozen?_setCell, World.frozen?_setCell]; exact h.f1)⟩
theorem below_set2 {B : Nat} {w W : World} (h : Below B w W) (b : Nat) (hb : B ≤ b) (v v' : Value) : Below B w ((W.setCell ⟨b, 0, none⟩ v).setCell ⟨b, 1, none⟩ v') :=
  (h.setCell (p := ⟨b, 0, none⟩) hb v).setCell (p := ⟨b, 1, none⟩) hb v'
theorem flags_un (u : Nat) (h : u < 256) : unpackOK [1, 1, 3, 3] u = true ∧ unpackL [1, 1, 3, 3] u = [((u % 2 : Nat) : Int), ((u / 2 % 2 : Nat) : Int), ((u / 4 % 8 : Nat) : Int), ((u / 32 % 8 : Nat) : Int)] := by
  constructor
  · simp [unpackOK, okW, sumI, offN]; omega
  · rw [unpackL_eq _ (by simp)]
    simp [unpackR]
    omega
def RvsSays (t1 : Bool) (n1 : Int) (t2 : Bool) (n2 : Int) (w : World) (e : Ending) (w' : World) : Prop :=
  e = .returned (.tuple #[.agg #[.bool t1, .int .i64 n1], .agg #[.bool t2, .int .i64 n2]]) ∧ Below w.heap.size w w'
set_option maxRecDepth 100000 in
set_option maxHeartbeats 2000000 in
theorem readVals_any (b off u : Nat) (zs : List Int) (hl : zs.length = 17) (hz : isBytes zs) (hu : fromN (zs.take 1) = u) (w : World) (g : Good (some ⟨b, off, none⟩) 17 zs w) :
    Calls Tryz.prog 108 #[.slice (some ⟨b, off, none⟩) 17 17] w
      (RvsSays (rdT (u % 2)) (rdN (zs.drop 1) (u % 2) (u / 4 % 8)) (rdT (u / 2 % 2)) (rdN (rdR (zs.drop 1) (u % 2) (u / 4 % 8)) (u / 2 % 2) (u / 32 % 8)) w) := by
  have hu256 : u < 256 := by rw [← hu]; exact fromN_k zs hz 1
  have hf := flags_un u hu256
  have hl1 : (zs.drop 1).length = 16 := by rw [List.length_drop]; omega
  have hz1 := hz.drop 1
  have x1 : u % 2 ≤ 1 := by omega
  have x2 : u / 2 % 2 ≤ 1 := by omega
  have x3 : u / 4 % 8 ≤ 7 := by omega
  have x4 : u / 32 % 8 ≤ 7 := by omega
  obtain ⟨ys, hys⟩ : ∃ ys, rdR (zs.drop 1) (u % 2) (u / 4 % 8) = ys := ⟨_, rfl⟩
  have hzy : isBytes ys := by rw [← hys]; exact rdR_bytes hz1 _ _
  have hly : 8 ≤ ys.length ∧ ys.length ≤ 16 := by
    rw [← hys]; unfold rdR
    split
    · omega
    · rw [List.length_drop]; omega
  rw [hys]
  have F1 : ∀ W, Calls Tryz.prog 103 #[] W fun e w' => ∃ A, e = .returned (.slice A 4 4) ∧ Ints .i64 w'.heap.size w' A [1, 1, 3, 3] ∧ Below W.heap.size W w' := fun W => (flagWidths_any W).mono fun e w' h => ⟨_, h⟩
  have F2 : ∀ A2 W, Good (some ⟨b, off, none⟩) 17 zs W → Ints .i64 W.heap.size W A2 [1, 1, 3, 3] → Calls Tryz.prog 107 #[.slice (some ⟨b, off, none⟩) 17 17, .int .i64 1, .slice A2 4 4] W fun e w' => ∃ d, e = .returned (.tuple #[.slice (some ⟨d, 0, none⟩) 4 4, .slice (some ⟨b, off + 1, none⟩) 16 16]) ∧ Ints .i64 w'.heap.size w' (some ⟨d, 0, none⟩) (unpackL [1, 1, 3, 3] u) ∧ W.heap.size ≤ d ∧ d < w'.heap.size ∧ Below W.heap.size W w' := fun A2 W h => unpacked_any b off 17 17 1 4 4 u zs [1, 1, 3, 3] A2 hl (by omega) (by omega) (by omega) hz rfl (by omega) hu hf.1 W h
  rw [hf.2] at F2
  have F3 := fun W (h : Good (some ⟨b, off + 1, none⟩) 16 (zs.drop 1) W) => readVal_any b (off + 1) 16 16 (u % 2) (u / 4 % 8) (zs.drop 1) hl1 x1 (by omega) x3 hz1 W h
  rw [hys] at F3
  have F4 := fun b' off' c W (h : Good (some ⟨b', off', none⟩) c ys W) => readVal_any b' off' ys.length c (u / 2 % 2) (u / 32 % 8) ys rfl x2 (by omega) x4 hzy W h
  generalize rdN (zs.drop 1) (u % 2) (u / 4 % 8) = n1 at *
  generalize rdN ys (u / 2 % 2) (u / 32 % 8) = n2 at *
  generalize rdT (u % 2) = t1 at *
  generalize rdT (u / 2 % 2) = t2 at *
  generalize u % 2 = f1 at *
  generalize u / 2 % 2 = f2 at *
  generalize u / 4 % 8 = f3 at *
  generalize u / 32 % 8 = f4 at *
  obtain ⟨W0, hW0⟩ : ∃ W0, W0 = (w.alloc (.cells #[.bool false, .int .i64 0] 61)).alloc (.cells #[.bool false, .int .i64 0] 61) := ⟨_, rfl⟩
  have hs0 : W0.heap.size = w.heap.size + 2 := by rw [hW0]; simp
  have hw0 : Below w.heap.size w W0 := by rw [hW0]; exact ((Below.refl _ _).alloc (Nat.le_refl _) _).alloc (by simp) _
  have va0 : ValAt W0 w.heap.size false 0 := by rw [hW0]; exact (valAt_new w false 0).below ((Below.refl _ _).alloc (Nat.le_refl _) _) (by simp)
  have vb0 : ValAt W0 (w.heap.size + 1) false 0 := by
    have := valAt_new (w.alloc (.cells #[.bool false, .int .i64 0] 61)) false 0
    rw [show (w.alloc (.cells #[.bool false, .int .i64 0] 61)).heap.size = w.heap.size + 1 by simp] at this
    rw [hW0]; exact this
  have gd : Good (some ⟨b, off + 1, none⟩) 16 (zs.drop 1) w := g.drop 1 (by omega)
  have HGD := Lib.hid gd
  have HL := Lib.hid hl
  have HLY := Lib.hid hly
  clear hl hu hf hl1 hys hly x1 x2 x3 x4 hu256
  go_enter Tryz.func108, Tryz.ntmps108
  go_wp2_with fail
  rw [← hW0]
  (with_reducible refine (F1 _).mono ?_)
  rintro e w1 ⟨A1, rfl, i1, k1⟩
  have g1 := (g.below hw0).below k1
  go_wp2_with fail
  (with_reducible refine (F2 _ _ g1 i1).mono ?_)
  rintro e w2 ⟨d, rfl, i2, hd, hd2, k2⟩
  have kk : Below W0.heap.size W0 w2 := below_more k1 k2 (Nat.le_refl _)
  have va2 := va0.below kk (by omega)
  have vb2 := vb0.below kk (by omega)
  have hsz2 : w.heap.size + 2 ≤ w2.heap.size := by have := kk.size; omega
  have kw : Below w.heap.size w w2 := hw0.trans (kk.mono (by omega))
  have gd2 := gd.below kw
  have hdn : d ≠ w.heap.size ∧ d ≠ w.heap.size + 1 := by have := k1.size; omega
  obtain ⟨d', o', e', hdlt, hdc⟩ := i2 (by simp)
  cases e'
  have e0 : w2.cell? ⟨d, 0, none⟩ = some (.int .i64 f1) := hdc 0 (by simp)
  have e1 : w2.cell? ⟨d, 1, none⟩ = some (.int .i64 f2) := hdc 1 (by simp)
  have e2 : w2.cell? ⟨d, 2, none⟩ = some (.int .i64 f3) := hdc 2 (by simp)
  have e3 : w2.cell? ⟨d, 3, none⟩ = some (.int .i64 f4) := hdc 3 (by simp)
  clear hdc i2 i1 k1 k2 kk g1 F1 F2 hW0 va0 vb0
  go_wp2_with fail
  have gd2d : Good (some ⟨b, off + 1, none⟩) 16 (zs.drop 1) w2.drew := gd2.drewN 1
  have kd2 : Below w2.heap.size w2 w2.drew := (Below.refl _ _).drew
  go_region_held3 (fun w' => w'.cell? ⟨d, 0, none⟩ = some (.int .i64 f1) ∧ w'.cell? ⟨d, 2, none⟩ = some (.int .i64 f3)) (first | assumption | exact ⟨e0, e2⟩ | exact ⟨st0 _ _, st2 _ _⟩ | exact ⟨q0, q2⟩) ((go_at_call 118; (with_reducible refine (F3 _ gd2d).mono ?_); rintro e w3 ⟨A3, c3, rfl, g3, k3⟩; have k3 : Below w2.heap.size w2 w3 := kd2.trans k3; have va3 := va2.below k3 (by omega); obtain ⟨m0, m1, m2, m3⟩ := va3; have q0 : w3.cell? ⟨d, 0, none⟩ = some (.int .i64 f1) := (k3.cell (p := ⟨d, 0, none⟩) hd2).trans e0; have q2 : w3.cell? ⟨d, 2, none⟩ = some (.int .i64 f3) := (k3.cell (p := ⟨d, 2, none⟩) hd2).trans e2; have st0 := fun v v' => (cell_set2 w3 w.heap.size v v' d 0 hdn.1).trans q0; have st2 := fun v v' => (cell_set2 w3 w.heap.size v v' d 2 hdn.1).trans q2))
  have G5 := g3 w HGD.out
  have va5 := (va2.below k3 (by omega)).set t1 n1
  have vb5 := (vb2.below k3 (by omega)).other (b := w.heap.size) (by omega) (.bool t1) (.int .i64 n1)
  have kw5 : Below w.heap.size w ((w3.setCell ⟨w.heap.size, 0, none⟩ (.bool t1)).setCell ⟨w.heap.size, 1, none⟩ (.int .i64 n1)) := below_set2 (below_more kw k3 (Nat.le_refl _)) w.heap.size (Nat.le_refl _) _ _
  have r1 := (cell_set2 w3 w.heap.size (.bool t1) (.int .i64 n1) d 1 hdn.1).trans ((k3.cell (p := ⟨d, 1, none⟩) hd2).trans e1)
  have r3 := (cell_set2 w3 w.heap.size (.bool t1) (.int .i64 n1) d 3 hdn.1).trans ((k3.cell (p := ⟨d, 3, none⟩) hd2).trans e3)
  have hs5 : w.heap.size + 2 ≤ ((w3.setCell ⟨w.heap.size, 0, none⟩ (.bool t1)).setCell ⟨w.heap.size, 1, none⟩ (.int .i64 n1)).heap.size ∧ d < ((w3.setCell ⟨w.heap.size, 0, none⟩ (.bool t1)).setCell ⟨w.heap.size, 1, none⟩ (.int .i64 n1)).heap.size := by
    have := k3.size
    simp
    omega
  clear va2 vb2 e0 e1 e2 e3 m0 m1 m2 m3 q0 q2 st0 st2 gd2 gd2d kd2 k3 F3 g3 hd2 gd hsz2 kw hdlt
  generalize ((w3.setCell ⟨w.heap.size, 0, none⟩ (.bool t1)).setCell ⟨w.heap.size, 1, none⟩ (.int .i64 n1)) = w5 at *
  obtain ⟨b', off', rfl⟩ := G5.some (by have := HLY.out; omega)
  have G6 := G5.below kw5
  have G6d : Good (some ⟨b', off', none⟩) c3 ys w5.drew := G6.drewN 1
  have kd5 : Below w5.heap.size w5 w5.drew := (Below.refl _ _).drew
  obtain ⟨hs5a, hs5b⟩ := hs5
  obtain ⟨l5, hl5⟩ : ∃ l5, ys.length = l5 := ⟨_, rfl⟩
  rw [hl5] at F4 ⊢
  clear HLY G5 hl5
  go_wp2_with fail
  go_region_held3 (fun w' => w'.cell? ⟨d, 1, none⟩ = some (.int .i64 f2) ∧ w'.cell? ⟨d, 3, none⟩ = some (.int .i64 f4)) (first | assumption | exact ⟨r1, r3⟩ | exact ⟨st0 _ _, st2 _ _⟩ | exact ⟨q0, q2⟩) ((go_at_call 118; (with_reducible refine (F4 _ _ _ _ G6d).mono ?_); rintro e w6 ⟨A6, c6, rfl, g6, k6⟩; have k6 : Below w5.heap.size w5 w6 := kd5.trans k6; have vb6 := vb5.below k6 (by omega); obtain ⟨m0, m1, m2, m3⟩ := vb6; have q0 : w6.cell? ⟨d, 1, none⟩ = some (.int .i64 f2) := (k6.cell (p := ⟨d, 1, none⟩) hs5b).trans r1; have q2 : w6.cell? ⟨d, 3, none⟩ = some (.int .i64 f4) := (k6.cell (p := ⟨d, 3, none⟩) hs5b).trans r3; have st0 := fun v v' => (cell_set2 w6 (w.heap.size + 1) v v' d 1 hdn.2).trans q0; have st2 := fun v v' => (cell_set2 w6 (w.heap.size + 1) v v' d 3 hdn.2).trans q2))
  have va7 := (va5.below k6 (by omega)).other (b := w.heap.size + 1) (by omega) (.bool t2) (.int .i64 n2)
  have vb7 := (vb5.below k6 (by omega)).set t2 n2
  have kw7 : Below w.heap.size w ((w6.setCell ⟨w.heap.size + 1, 0, none⟩ (.bool t2)).setCell ⟨w.heap.size + 1, 1, none⟩ (.int .i64 n2)) := below_set2 (below_more kw5 k6 (Nat.le_refl _)) (w.heap.size + 1) (by omega) _ _
  clear va5 vb5 m0 m1 m2 m3 q0 q2 st0 st2 G6 G6d kd5 k6 F4 g6 r1 r3
  generalize ((w6.setCell ⟨w.heap.size + 1, 0, none⟩ (.bool t2)).setCell ⟨w.heap.size + 1, 1, none⟩ (.int .i64 n2)) = w7 at *
  obtain ⟨x0, x1, x2, x3⟩ := va7
  obtain ⟨y0, y1, y2, y3⟩ := vb7
  go_wp2_with fail
  go_region
  go_wp2
  refine bodyPost_ret (v := .tuple #[.agg #[.bool t1, .int .i64 n1], .agg #[.bool t2, .int .i64 n2]]) ?_ rfl ⟨rfl, ?_⟩
  · simp [results, Tryz.results108, go_sem, x0, x1, y0, y1]
  · repeat first | exact kw7 | refine Below.setCell ?_ (by first | exact Nat.le_refl _ | simp) _ | refine Below.drew ?_
end Go.Proofs.YtdmkkfpbgpijjaaGreat
