/- rec.read: a record of any bytes, as if noughts stood behind them. -/
import Derived.Test.YtdmkkfpbgpijjaaGreatWak
import Derived.Laws.CopyOwn
import Derived.Laws.Cover3
namespace Go.Proofs.YtdmkkfpbgpijjaaGreat
open Go.RowKit Go.Deep
set_option linter.unusedVariables false

def z24 : List Value := (zeros 24).map (Value.int .u8)
theorem splice_n {α : Type} (n : Nat) (z : α) (xs : List α) : splice (List.replicate n z) 0 (xs.take n) = (xs ++ List.replicate n z).take n := by
  unfold splice
  rw [List.take_append, List.take_zero, List.nil_append, Nat.zero_add, List.length_take, List.drop_replicate, List.take_replicate]
  congr 2
  omega
theorem splice_pad (zs : List Int) : splice z24 0 ((zs.take 24).map (Value.int .u8)) = (pad zs).map (Value.int .u8) := by
  have e : z24 = List.replicate 24 (Value.int .u8 0) := rfl
  have e2 : (zeros 24).map (Value.int .u8) = List.replicate 24 (Value.int .u8 0) := rfl
  unfold pad
  rw [e, List.map_take, List.map_take, List.map_append, e2, splice_n]
theorem pad_good' {W : World} {b : Nat} {ps : List Int} {t : TypeId} (h : W.heap[b]? = some (.cells (ps.map (Value.int .u8)).toArray t (0, 0))) (hl : ps.length = 24) : Good (some ⟨b, 0, none⟩) 24 ps W := by
  refine ⟨fun _ => ⟨b, 0, rfl, (Array.getElem?_eq_some_iff.1 h).1, fun j hj => ?_⟩, by omega, fun e => by cases e⟩
  rw [Nat.zero_add, cell_of_row _ b j _ t (0, 0) h]
  simp [hj]
theorem head_un (u : Nat) (h : u < 16777216) : unpackOK [3, 21] u = true ∧ unpackL [3, 21] u = [((u % 8 : Nat) : Int), ((u / 8 : Nat) : Int)] := by
  constructor
  · simp [unpackOK, okW, sumI, offN]; omega
  · rw [unpackL_eq _ (by simp)]
    simp [unpackR]
    omega
theorem src_cells {A : Option Addr} {c : Nat} {zs : List Int} {W : World} (g : Good A c zs W) (g0 : Nat) : 0 < ((zs.take 24).map (Value.int .u8)).length → (some (⟨g0, 0, none⟩ : Addr)) = some ⟨g0, 0, none⟩ ∧ ∃ ad, A = some ad ∧ ∀ j v, ((zs.take 24).map (Value.int .u8))[j]? = some v → W.cell? (ad.add j) = some v := fun h => by
  refine ⟨rfl, ?_⟩
  have h0 : 0 < (zs.take 24).length := by simpa using h
  obtain ⟨b, off, rfl⟩ := (g.take 24).some h0
  exact ⟨_, rfl, cells_of_good rfl (g.take 24)⟩
set_option maxRecDepth 100000 in
theorem size_u8 : (Tryz.prog.info? 5).map (·.size) = some 1 := by kernel_rfl
/-- A record lies in a block that can be written. -/
structure RecBox (W : World) (b : Nat) (r : RecD) : Prop where
  at_ : RecAt W b r
  fz : ∀ i, W.frozen? ⟨b, i, none⟩ = false
theorem boxC {W : World} {b : Nat} (k t : Int) (m : Nat) (a0 a1 a2 a3 : Int) (oT : Bool) (oN : Int) (nT : Bool) (nN : Int) (h : RecBox W b ⟨k, t, m, a0, a1, a2, a3, oT, oN, nT, nN⟩) : W.cell? ⟨b, 0, none⟩ = some (.int .i64 k) ∧ W.frozen? ⟨b, 0, none⟩ = false ∧ W.cell? ⟨b, 1, none⟩ = some (.int .i64 t) ∧ W.frozen? ⟨b, 1, none⟩ = false ∧ W.cell? ⟨b, 2, none⟩ = some (.int .u16 m) ∧ W.frozen? ⟨b, 2, none⟩ = false ∧ W.cell? ⟨b, 3, none⟩ = some (.int .u8 a0) ∧ W.frozen? ⟨b, 3, none⟩ = false ∧ W.cell? ⟨b, 4, none⟩ = some (.int .u8 a1) ∧ W.frozen? ⟨b, 4, none⟩ = false ∧ W.cell? ⟨b, 5, none⟩ = some (.int .u8 a2) ∧ W.frozen? ⟨b, 5, none⟩ = false ∧ W.cell? ⟨b, 6, none⟩ = some (.int .u8 a3) ∧ W.frozen? ⟨b, 6, none⟩ = false ∧ W.cell? ⟨b, 7, none⟩ = some (.bool oT) ∧ W.frozen? ⟨b, 7, none⟩ = false ∧ W.cell? ⟨b, 8, none⟩ = some (.int .i64 oN) ∧ W.frozen? ⟨b, 8, none⟩ = false ∧ W.cell? ⟨b, 9, none⟩ = some (.bool nT) ∧ W.frozen? ⟨b, 9, none⟩ = false ∧ W.cell? ⟨b, 10, none⟩ = some (.int .i64 nN) ∧ W.frozen? ⟨b, 10, none⟩ = false :=
  ⟨h.at_.c0, h.fz 0, h.at_.c1, h.fz 1, h.at_.c2, h.fz 2, h.at_.c3, h.fz 3, h.at_.c4, h.fz 4, h.at_.c5, h.fz 5, h.at_.c6, h.fz 6, h.at_.c7, h.fz 7, h.at_.c8, h.fz 8, h.at_.c9, h.fz 9, h.at_.c10, h.fz 10⟩
theorem boxD {W : World} {b : Nat} (k t : Int) (m : Nat) (a0 a1 a2 a3 : Int) (oT : Bool) (oN : Int) (nT : Bool) (nN : Int) (h : RecBox W b ⟨k, t, m, a0, a1, a2, a3, oT, oN, nT, nN⟩) : W.cell? ⟨b, 0, none⟩ = some (.int .i64 k) ∧ W.cell? ⟨b, 1, none⟩ = some (.int .i64 t) ∧ W.cell? ⟨b, 2, none⟩ = some (.int .u16 m) ∧ W.cell? ⟨b, 3, none⟩ = some (.int .u8 a0) ∧ W.cell? ⟨b, 4, none⟩ = some (.int .u8 a1) ∧ W.cell? ⟨b, 5, none⟩ = some (.int .u8 a2) ∧ W.cell? ⟨b, 6, none⟩ = some (.int .u8 a3) ∧ W.cell? ⟨b, 7, none⟩ = some (.bool oT) ∧ W.cell? ⟨b, 8, none⟩ = some (.int .i64 oN) ∧ W.cell? ⟨b, 9, none⟩ = some (.bool nT) ∧ W.cell? ⟨b, 10, none⟩ = some (.int .i64 nN) :=
  ⟨h.at_.c0, h.at_.c1, h.at_.c2, h.at_.c3, h.at_.c4, h.at_.c5, h.at_.c6, h.at_.c7, h.at_.c8, h.at_.c9, h.at_.c10⟩
theorem RecBox.below {W W' : World} {b B : Nat} {r : RecD} (h : RecBox W b r) (hb : Below B W W') (hB : b < B) : RecBox W' b r := ⟨h.at_.below hb hB, fun i => (hb.frozen (p := ⟨b, i, none⟩) hB).trans (h.fz i)⟩
theorem RecBox.drew {W : World} {b : Nat} {r : RecD} (h : RecBox W b r) : RecBox W.drew b r := h.below ((Below.refl W.heap.size W).drew) h.at_.lt
set_option maxRecDepth 100000 in
theorem recBox_new (w : World) (r : RecD) : RecBox (w.alloc (.cells (recA r) 63)) w.heap.size r := ⟨recAt_new w r, fun i => by simp [go_sem]⟩
theorem heap2n (w : World) (o o' : Obj) : ((w.alloc o).alloc o').heap[w.heap.size + 1]? = some o' := by
  have := heap_alloc_new (w.alloc o) o'
  rw [show (w.alloc o).heap.size = w.heap.size + 1 by simp] at this
  exact this
theorem below2 (w : World) (o o' : Obj) : Below w.heap.size w ((w.alloc o).alloc o') := ((Below.refl _ _).alloc (Nat.le_refl _) _).alloc (by simp) _
theorem below_sc {B b i : Nat} {w W : World} (h : Below B w W) (hb : B ≤ b) (v : Value) : Below B w (W.setCell ⟨b, i, none⟩ v) := h.setCell (p := ⟨b, i, none⟩) hb v
theorem cell_sc (W : World) (b i d j : Nat) (v : Value) (h : d ≠ b) : (W.setCell ⟨b, i, none⟩ v).cell? ⟨d, j, none⟩ = W.cell? ⟨d, j, none⟩ := by
  have h2 : (⟨b, i, none⟩ : Addr) ≠ ⟨d, j, none⟩ := fun e => h (by injection e with e; exact e.symm)
  rw [World.cell?_setCell_other _ _ _ _ h2]
theorem good_sc {A : Nat} {off c : Nat} {zs : List Int} {W : World} (g : Good (some ⟨A, off, none⟩) c zs W) (b i : Nat) (v : Value) (h : A ≠ b) : Good (some ⟨A, off, none⟩) c zs (W.setCell ⟨b, i, none⟩ v) := by
  refine ⟨fun h0 => ?_, g.2⟩
  obtain ⟨b', o', e, hlt, hc⟩ := g.1 h0
  cases e
  exact ⟨A, off, rfl, by simpa using hlt, fun j hj => (cell_sc W b i A (off + j) v h).trans (hc j hj)⟩
theorem box_sc {W : World} {b : Nat} {r : RecD} (h : RecBox W b r) (m i : Nat) (v : Value) (hb : b ≠ m) : RecBox (W.setCell ⟨m, i, none⟩ v) b r := by
  have k := fun j => cell_sc W m i b j v hb
  exact ⟨⟨(k 0).trans h.at_.c0, (k 1).trans h.at_.c1, (k 2).trans h.at_.c2, (k 3).trans h.at_.c3, (k 4).trans h.at_.c4, (k 5).trans h.at_.c5, (k 6).trans h.at_.c6, (k 7).trans h.at_.c7, (k 8).trans h.at_.c8, (k 9).trans h.at_.c9, (k 10).trans h.at_.c10⟩, fun j => by rw [World.frozen?_setCell]; exact h.fz j⟩
def set4 (W : World) (m : Nat) (a b c d : Int) : World := (((W.setCell ⟨m, 3, none⟩ (.int .u8 a)).setCell ⟨m, 4, none⟩ (.int .u8 b)).setCell ⟨m, 5, none⟩ (.int .u8 c)).setCell ⟨m, 6, none⟩ (.int .u8 d)
set_option maxRecDepth 100000 in
theorem box_key {W : World} {m : Nat} {k t : Int} (h : RecBox W m ⟨k, t, 0, 0, 0, 0, 0, false, 0, false, 0⟩) (a b c d : Int) : RecBox (set4 W m a b c d) m ⟨k, t, 0, a, b, c, d, false, 0, false, 0⟩ := by
  obtain ⟨⟨c0, c1, c2, c3, c4, c5, c6, c7, c8, c9, c10⟩, fz⟩ := h
  dsimp only at c0 c1 c2 c3 c4 c5 c6 c7 c8 c9 c10
  unfold set4
  refine ⟨⟨?_, ?_, ?_, ?_, ?_, ?_, ?_, ?_, ?_, ?_, ?_⟩, fun i => by simp only [World.frozen?_setCell]; exact fz i⟩
  all_goals simp [go_sem, c0, c1, c2, c3, c4, c5, c6, c7, c8, c9, c10]
def headR (h : Nat) : RecD := ⟨((h % 8 : Nat) : Int) + 1, ((h / 8 : Nat) : Int), 0, 0, 0, 0, 0, false, 0, false, 0⟩
set_option maxRecDepth 100000 in
set_option maxHeartbeats 2000000 in
theorem read_any (A : Option Addr) (l c : Nat) (zs : List Int) (hl : zs.length = l) (hz : isBytes zs) (w : World) (g : Good A c zs w) :
    Calls Tryz.prog 89 #[.slice A l c] w fun e w' => e = .returned (recV (readL zs)) ∧ Below w.heap.size w w' := by
  have hcl : ((zs.take 24).map (Value.int .u8)).length = Nat.min l 24 := by rw [List.length_map, List.length_take, hl]; exact Nat.min_comm _ _
  have HCL := Lib.hid hcl
  have hfit : 0 + ((zs.take 24).map (Value.int .u8)).length ≤ z24.length := by
    have h24 : z24.length = 24 := by simp [z24, zeros]
    rw [hcl, Nat.zero_add, h24]
    exact Nat.min_le_right _ _
  have HF := Lib.hid hfit
  have HG := fun W (h : Below w.heap.size w W) => Lib.hid (src_cells (g.below h) (w.heap.size + 1))
  have hpz := pad_bytes hz
  have hpl := pad_length zs
  unfold readL
  have HS := Lib.hid (splice_pad zs)
  have HW := Lib.hid (recBox_new w zeroR)
  clear hcl hfit hl hz g
  generalize hpd : pad zs = ps at *
  clear hpd
  obtain ⟨h, hh⟩ : ∃ h, fromN (ps.take 3) = h := ⟨_, rfl⟩
  have hh3 : h < 16777216 := by rw [← hh]; exact fromN_k ps hpz 3
  have hun := head_un h hh3
  have F1 : ∀ W, Calls Tryz.prog 85 #[] W fun e w' => ∃ A, e = .returned (.slice A 2 2) ∧ Ints .i64 w'.heap.size w' A [3, 21] ∧ Below W.heap.size W w' := fun W => (headWidths_any W).mono fun e w' h => ⟨_, h⟩
  have F2 : ∀ A2 W, Good (some ⟨w.heap.size + 1, 0, none⟩) 24 ps W → Ints .i64 W.heap.size W A2 [3, 21] → Calls Tryz.prog 107 #[.slice (some ⟨w.heap.size + 1, 0, none⟩) 24 24, .int .i64 3, .slice A2 2 2] W fun e w' => ∃ d, e = .returned (.tuple #[.slice (some ⟨d, 0, none⟩) 2 2, .slice (some ⟨w.heap.size + 1, 3, none⟩) 21 21]) ∧ Ints .i64 w'.heap.size w' (some ⟨d, 0, none⟩) (unpackL [3, 21] h) ∧ W.heap.size ≤ d ∧ d < w'.heap.size ∧ Below W.heap.size W w' := fun A2 W hg hi => by
    have := unpacked_any (w.heap.size + 1) 0 24 24 3 2 2 h ps [3, 21] A2 hpl (by omega) (by omega) (by omega) hpz rfl (by omega) hh hun.1 W hg hi
    unfold UnpSays at this
    simpa using this
  rw [hun.2] at F2
  clear hun
  have HP := Lib.hid hpl
  clear hpl
  go_enter Tryz.func89, Tryz.ntmps89
  go_wp2_with (refine wpList_copy_splice (o := ⟨some 11, _, _, _, _, _⟩) rfl (.tmp 9) (.tmp 10) _ _ rfl 5 Tryz.underlying39 size_u8 (some ⟨w.heap.size + 1, 0, none⟩) A 24 24 l c rfl rfl (w.heap.size + 1) 0 z24 146 (heap2n _ _ _) ((zs.take 24).map (Value.int .u8)) HCL.out (HG _ (below2 _ _ _)).out HF.out (one_u8 _) (w.heap.size + 1) _ ((Below.refl _ _).alloc (by simp) _) (Nat.le_refl _) ?_; intro w1 hg1 kb1; have gP := pad_good' (hg1.out.trans (by rw [HS.out])) HP.out; have rb1 := HW.out.below kb1 (by omega); have kw1 := ((Below.refl _ w).alloc (Nat.le_refl _) _).trans (kb1.mono (by omega)); clear hg1 kb1)
  clear HCL HF HG HS HW
  have hb2 : w.heap.size + 2 ≤ w1.heap.size := by
    obtain ⟨b', o', e', hlt, _⟩ := gP.1 (by rw [HP.out]; omega)
    cases e'
    omega
  have gPd : Good (some ⟨w.heap.size + 1, 0, none⟩) 24 ps w1.drew := gP.drewN 1
  have kd1 : Below w1.heap.size w1 w1.drew := (Below.refl _ _).drew
  go_region_held3 (fun _ => True) (exact trivial) (first
    | (go_at_call 85; (with_reducible refine (F1 _).mono ?_); rintro e w2 ⟨A2, rfl, i2, k2⟩; have k2 : Below w1.heap.size w1 w2 := kd1.trans k2)
    | (go_at_call 107; (with_reducible refine (F2 _ _ (gP.below k2) i2).mono ?_); rintro e w3 ⟨d, rfl, i3, hd, hd2, k3⟩))
  have k13 : Below w1.heap.size w1 w3 := below_more k2 k3 (Nat.le_refl _)
  have rb3 := rb1.below k13 (by omega)
  have gR3 : Good (some ⟨w.heap.size + 1, 3, none⟩) 21 (ps.drop 3) w3 := (gP.below k13).drop 3 (by rw [HP.out]; omega)
  have kw3 := below_more kw1 k13 (Nat.le_refl _)
  have hs3 : w.heap.size + 2 ≤ d := by have := k2.size; omega
  obtain ⟨d', o', e', hdlt, hdc⟩ := i3 (by simp)
  cases e'
  have e0 : w3.cell? ⟨d, 0, none⟩ = some (.int .i64 ((h % 8 : Nat) : Int)) := hdc 0 (by simp)
  have e1 : w3.cell? ⟨d, 1, none⟩ = some (.int .i64 ((h / 8 : Nat) : Int)) := hdc 1 (by simp)
  clear hdc i3 i2 F1 F2 gP gPd kd1 k2 k3 k13 rb1 kw1 hd hdlt hb2
  obtain ⟨x, hx⟩ : ∃ x, h % 8 = x := ⟨_, rfl⟩
  obtain ⟨y, hy⟩ : ∃ y, h / 8 = y := ⟨_, rfl⟩
  rw [hx] at e0
  rw [hy] at e1
  have hx7 : x ≤ 7 := by omega
  have hy2 : y < 2097152 := by omega
  have HX := Lib.hid hx
  have HY := Lib.hid hy
  have HH := Lib.hid hh
  clear hx hy hh hh3
  obtain ⟨kI, hkI⟩ : ∃ kI : Int, (x : Int) + 1 = kI := ⟨_, rfl⟩
  have hwr : IntKind.i64.wrap ((x : Int) + 1) = kI := by rw [← hkI]; exact IntWalk.i64_in _ (by omega)
  have HK := Lib.hid hkI
  clear hkI
  have ea0 : ∀ o, (w3.alloc o).cell? ⟨d, 0, none⟩ = some (.int .i64 x) := fun o => (World.cell?_alloc_lt w3 o ⟨d, 0, none⟩ hd2).trans e0
  have ea1 : ∀ o, (w3.alloc o).cell? ⟨d, 1, none⟩ = some (.int .i64 y) := fun o => (World.cell?_alloc_lt w3 o ⟨d, 1, none⟩ hd2).trans e1
  go_wp2_with fail
  go_region
  have rm4 : RecBox (w3.alloc (.cells #[.int .i64 kI, .int .i64 y, .int .u16 0, .int .u8 0, .int .u8 0, .int .u8 0, .int .u8 0, .bool false, .int .i64 0, .bool false, .int .i64 0] 63)).drew w3.heap.size ⟨kI, y, 0, 0, 0, 0, 0, false, 0, false, 0⟩ := (recBox_new w3 ⟨kI, y, 0, 0, 0, 0, 0, false, 0, false, 0⟩).drew
  have kd : Below w3.heap.size w3 (w3.alloc (.cells #[.int .i64 kI, .int .i64 y, .int .u16 0, .int .u8 0, .int .u8 0, .int .u8 0, .int .u8 0, .bool false, .int .i64 0, .bool false, .int .i64 0] 63)).drew := ((Below.refl _ _).alloc (Nat.le_refl _) _).drew
  have rb4 := rb3.below kd (by omega)
  have gR4 := gR3.below kd
  have kw4 := below_more kw3 kd (Nat.le_refl _)
  have hmn : w.heap.size ≠ w3.heap.size ∧ w3.heap.size ≠ w.heap.size ∧ w.heap.size ≤ w3.heap.size ∧ w.heap.size + 1 ≠ w3.heap.size := by omega
  have hms : w3.heap.size < (w3.alloc (.cells #[.int .i64 kI, .int .i64 y, .int .u16 0, .int .u8 0, .int .u8 0, .int .u8 0, .int .u8 0, .bool false, .int .i64 0, .bool false, .int .i64 0] 63)).drew.heap.size := by show _ < (w3.alloc _).heap.size; simp
  have hns : w.heap.size < (w3.alloc (.cells #[.int .i64 kI, .int .i64 y, .int .u16 0, .int .u8 0, .int .u8 0, .int .u8 0, .int .u8 0, .bool false, .int .i64 0, .bool false, .int .i64 0] 63)).drew.heap.size := by omega
  clear ea0 ea1 e0 e1 kd rb3 gR3 kw3 hs3 hd2 hwr k2
  generalize (w3.alloc (.cells #[.int .i64 kI, .int .i64 y, .int .u16 0, .int .u8 0, .int .u8 0, .int .u8 0, .int .u8 0, .bool false, .int .i64 0, .bool false, .int .i64 0] 63)).drew = w4 at *
  generalize w3.heap.size = m at *
  obtain ⟨hmn1, hmn2, hmn3, hmn4⟩ := hmn
  have mk := rm4.at_.c0
  cases h2 : (kI == 2)
  · cases h8 : (kI == 8)
    · cases h1 : (kI == 1)
      · cases h7 : (kI == 7)
        · skip
          have HE : Hid (recV (read24 ps) = .agg #[.int .i64 kI, .int .i64 y, .int .u16 0, .int .u8 0, .int .u8 0, .int .u8 0, .int .u8 0, .bool false, .int .i64 0, .bool false, .int .i64 0]) := by
            apply Lib.hid
            have hk2 : ¬ (((h % 8 : Nat) : Int) + 1 = 2 ∨ ((h % 8 : Nat) : Int) + 1 = 8) := by have := HX.out; have := HK.out; simp at h2 h8; omega
            have hk1 : ¬ (((h % 8 : Nat) : Int) + 1 = 1 ∨ ((h % 8 : Nat) : Int) + 1 = 7) := by have := HX.out; have := HK.out; simp at h1 h7; omega
            unfold read24
            simp only [HH.out]
            rw [if_neg hk2, if_neg hk1, HX.out, HY.out, HK.out]
            rfl
          obtain ⟨mc0, mf0, mc1, mf1, mc2, mf2, mc3, mf3, mc4, mf4, mc5, mf5, mc6, mf6, mc7, mf7, mc8, mf8, mc9, mf9, mc10, mf10⟩ := boxC kI y 0 0 0 0 0 false 0 false 0 rm4
          obtain ⟨nc0, nf0, nc1, nf1, nc2, nf2, nc3, nf3, nc4, nf4, nc5, nf5, nc6, nf6, nc7, nf7, nc8, nf8, nc9, nf9, nc10, nf10⟩ := boxC 0 0 0 0 0 0 0 false 0 false 0 rb4
          go_wp2
          refine bodyPost_ret (v := .agg #[.int .i64 kI, .int .i64 y, .int .u16 0, .int .u8 0, .int .u8 0, .int .u8 0, .int .u8 0, .bool false, .int .i64 0, .bool false, .int .i64 0]) ?_ rfl ⟨by rw [HE.out], ?_⟩
          · simp [results, Tryz.results89, go_sem, nc0, nc1, nc2, nc3, nc4, nc5, nc6, nc7, nc8, nc9, nc10]
          · repeat first | with_reducible exact kw4 | with_reducible refine below_sc ?_ (Nat.le_refl _) _ | with_reducible refine below_sc ?_ hmn3 _ | with_reducible refine Below.drew ?_
        · skip
          obtain ⟨u, hu⟩ : ∃ u, fromN ((ps.drop 7).take 1) = u := ⟨_, rfl⟩
          have hl17 : (ps.drop 7).length = 17 := by rw [List.length_drop, HP.out]
          have gR7 : ∀ W, Good (some ⟨w.heap.size + 1, 3, none⟩) 21 (ps.drop 3) W → Good (some ⟨w.heap.size + 1, 7, none⟩) 17 (ps.drop 7) W := fun W hg => by
            have := hg.drop 4 (by rw [List.length_drop, HP.out]; omega)
            rw [List.drop_drop] at this
            exact this
          have F4 := fun W (hg : Good (some ⟨w.heap.size + 1, 7, none⟩) 17 (ps.drop 7) W) => readVals_any (w.heap.size + 1) 7 u (ps.drop 7) hl17 (hpz.drop 7) hu W hg
          rw [List.drop_drop] at F4
          unfold RvsSays at F4
          have HE : Hid (recV (read24 ps) = .agg #[.int .i64 kI, .int .i64 y, .int .u16 0, .int .u8 (ps[3]?.getD 0), .int .u8 (ps[4]?.getD 0), .int .u8 (ps[5]?.getD 0), .int .u8 (ps[6]?.getD 0), .bool (rdT (u % 2)), .int .i64 (rdN (ps.drop (7 + 1)) (u % 2) (u / 4 % 8)), .bool (rdT (u / 2 % 2)), .int .i64 (rdN (rdR (ps.drop (7 + 1)) (u % 2) (u / 4 % 8)) (u / 2 % 2) (u / 32 % 8))]) := by
            apply Lib.hid
            have hk2 : ¬ (((h % 8 : Nat) : Int) + 1 = 2 ∨ ((h % 8 : Nat) : Int) + 1 = 8) := by have := HX.out; have := HK.out; simp at h2 h8; omega
            have hk1 : ((h % 8 : Nat) : Int) + 1 = 1 ∨ ((h % 8 : Nat) : Int) + 1 = 7 := by have := HX.out; have := HK.out; simp at h7; omega
            unfold read24
            simp only [HH.out]
            rw [if_neg hk2, if_pos hk1, HX.out, HY.out, HK.out, hu]
            rfl
          generalize rdN (rdR (ps.drop (7 + 1)) (u % 2) (u / 4 % 8)) (u / 2 % 2) (u / 32 % 8) = n2 at *
          generalize rdN (ps.drop (7 + 1)) (u % 2) (u / 4 % 8) = n1 at *
          generalize rdT (u % 2) = t1 at *
          generalize rdT (u / 2 % 2) = t2 at *
          have kc : ∀ j, j < 4 → w4.cell? ⟨w.heap.size + 1, 3 + j, none⟩ = some (.int .u8 (ps[3 + j]?.getD 0)) := fun j hj => by
            obtain ⟨b', o', e', _, hc⟩ := gR4.1 (by rw [List.length_drop, HP.out]; omega)
            cases e'
            rw [hc j (by rw [List.length_drop, HP.out]; omega), List.getElem?_drop]
          have p3 : w4.cell? ⟨w.heap.size + 1, 3, none⟩ = some (.int .u8 (ps[3]?.getD 0)) := kc 0 (by omega)
          have p4 : w4.cell? ⟨w.heap.size + 1, 4, none⟩ = some (.int .u8 (ps[4]?.getD 0)) := kc 1 (by omega)
          have p5 : w4.cell? ⟨w.heap.size + 1, 5, none⟩ = some (.int .u8 (ps[5]?.getD 0)) := kc 2 (by omega)
          have p6 : w4.cell? ⟨w.heap.size + 1, 6, none⟩ = some (.int .u8 (ps[6]?.getD 0)) := kc 3 (by omega)
          generalize ps[3]?.getD 0 = z3 at *
          generalize ps[4]?.getD 0 = z4 at *
          generalize ps[5]?.getD 0 = z5 at *
          generalize ps[6]?.getD 0 = z6 at *
          have hG7 := gR7 w4 gR4
          have hat : ∀ W, (Instr.arrayAt 59 (.slice (some ⟨w.heap.size + 1, 3, none⟩) 4 21)).run Tryz.prog W = .ok (.pointer (some ⟨w.heap.size + 1, 3, none⟩)) W := fun W => run_arrayAt W 59 _ 4 _ 4 21 Tryz.underlying59 (by omega)
          have RM5 := box_key rm4 z3 z4 z5 z6
          have RB5 := box_sc (box_sc (box_sc (box_sc rb4 m 3 (.int .u8 z3) hmn1) m 4 (.int .u8 z4) hmn1) m 5 (.int .u8 z5) hmn1) m 6 (.int .u8 z6) hmn1
          have G5 := good_sc (good_sc (good_sc (good_sc hG7 m 3 (.int .u8 z3) hmn4) m 4 (.int .u8 z4) hmn4) m 5 (.int .u8 z5) hmn4) m 6 (.int .u8 z6) hmn4
          have KW5 := below_sc (below_sc (below_sc (below_sc kw4 hmn3 (i := 3) (.int .u8 z3)) hmn3 (i := 4) (.int .u8 z4)) hmn3 (i := 5) (.int .u8 z5)) hmn3 (i := 6) (.int .u8 z6)
          have hms5 : m < (set4 w4 m z3 z4 z5 z6).heap.size ∧ w.heap.size < (set4 w4 m z3 z4 z5 z6).heap.size := by unfold set4; simp; omega
          unfold set4 at RM5 hms5
          clear hu hl17 gR7 kc gR4 hG7
          obtain ⟨mc0, mf0, mc1, mf1, mc2, mf2, mc3, mf3, mc4, mf4, mc5, mf5, mc6, mf6, mc7, mf7, mc8, mf8, mc9, mf9, mc10, mf10⟩ := boxC kI y 0 0 0 0 0 false 0 false 0 rm4
          go_wp2_with fail
          (with_reducible refine (F4 _ G5).mono ?_)
          rintro e w6 ⟨rfl, k6⟩
          have rm6 := RM5.below k6 hms5.1
          have rb6 := RB5.below k6 hms5.2
          have kw6 := below_more KW5 k6 (Nat.le_refl _)
          clear F4 mk RM5 RB5 G5 KW5 hms5 p3 p4 p5 p6 hat mc0 mf0 mc1 mf1 mc2 mf2 mc3 mf3 mc4 mf4 mc5 mf5 mc6 mf6 mc7 mf7 mc8 mf8 mc9 mf9 mc10 mf10
          obtain ⟨mc0, mf0, mc1, mf1, mc2, mf2, mc3, mf3, mc4, mf4, mc5, mf5, mc6, mf6, mc7, mf7, mc8, mf8, mc9, mf9, mc10, mf10⟩ := boxC kI y 0 z3 z4 z5 z6 false 0 false 0 rm6
          obtain ⟨nc0, nf0, nc1, nf1, nc2, nf2, nc3, nf3, nc4, nf4, nc5, nf5, nc6, nf6, nc7, nf7, nc8, nf8, nc9, nf9, nc10, nf10⟩ := boxC 0 0 0 0 0 0 0 false 0 false 0 rb6
          go_wp2
          refine bodyPost_ret (v := .agg #[.int .i64 kI, .int .i64 y, .int .u16 0, .int .u8 z3, .int .u8 z4, .int .u8 z5, .int .u8 z6, .bool t1, .int .i64 n1, .bool t2, .int .i64 n2]) ?_ rfl ⟨by rw [HE.out], ?_⟩
          · simp [results, Tryz.results89, go_sem, nc0, nc1, nc2, nc3, nc4, nc5, nc6, nc7, nc8, nc9, nc10]
          · repeat first | with_reducible exact kw6 | with_reducible refine below_sc ?_ (Nat.le_refl _) _ | with_reducible refine below_sc ?_ hmn3 _ | with_reducible refine Below.drew ?_
      · skip
        obtain ⟨u, hu⟩ : ∃ u, fromN ((ps.drop 7).take 1) = u := ⟨_, rfl⟩
        have hl17 : (ps.drop 7).length = 17 := by rw [List.length_drop, HP.out]
        have gR7 : ∀ W, Good (some ⟨w.heap.size + 1, 3, none⟩) 21 (ps.drop 3) W → Good (some ⟨w.heap.size + 1, 7, none⟩) 17 (ps.drop 7) W := fun W hg => by
          have := hg.drop 4 (by rw [List.length_drop, HP.out]; omega)
          rw [List.drop_drop] at this
          exact this
        have F4 := fun W (hg : Good (some ⟨w.heap.size + 1, 7, none⟩) 17 (ps.drop 7) W) => readVals_any (w.heap.size + 1) 7 u (ps.drop 7) hl17 (hpz.drop 7) hu W hg
        rw [List.drop_drop] at F4
        unfold RvsSays at F4
        have HE : Hid (recV (read24 ps) = .agg #[.int .i64 kI, .int .i64 y, .int .u16 0, .int .u8 (ps[3]?.getD 0), .int .u8 (ps[4]?.getD 0), .int .u8 (ps[5]?.getD 0), .int .u8 (ps[6]?.getD 0), .bool (rdT (u % 2)), .int .i64 (rdN (ps.drop (7 + 1)) (u % 2) (u / 4 % 8)), .bool (rdT (u / 2 % 2)), .int .i64 (rdN (rdR (ps.drop (7 + 1)) (u % 2) (u / 4 % 8)) (u / 2 % 2) (u / 32 % 8))]) := by
          apply Lib.hid
          have hk2 : ¬ (((h % 8 : Nat) : Int) + 1 = 2 ∨ ((h % 8 : Nat) : Int) + 1 = 8) := by have := HX.out; have := HK.out; simp at h2 h8; omega
          have hk1 : ((h % 8 : Nat) : Int) + 1 = 1 ∨ ((h % 8 : Nat) : Int) + 1 = 7 := by have := HX.out; have := HK.out; simp at h1; omega
          unfold read24
          simp only [HH.out]
          rw [if_neg hk2, if_pos hk1, HX.out, HY.out, HK.out, hu]
          rfl
        generalize rdN (rdR (ps.drop (7 + 1)) (u % 2) (u / 4 % 8)) (u / 2 % 2) (u / 32 % 8) = n2 at *
        generalize rdN (ps.drop (7 + 1)) (u % 2) (u / 4 % 8) = n1 at *
        generalize rdT (u % 2) = t1 at *
        generalize rdT (u / 2 % 2) = t2 at *
        have kc : ∀ j, j < 4 → w4.cell? ⟨w.heap.size + 1, 3 + j, none⟩ = some (.int .u8 (ps[3 + j]?.getD 0)) := fun j hj => by
          obtain ⟨b', o', e', _, hc⟩ := gR4.1 (by rw [List.length_drop, HP.out]; omega)
          cases e'
          rw [hc j (by rw [List.length_drop, HP.out]; omega), List.getElem?_drop]
        have p3 : w4.cell? ⟨w.heap.size + 1, 3, none⟩ = some (.int .u8 (ps[3]?.getD 0)) := kc 0 (by omega)
        have p4 : w4.cell? ⟨w.heap.size + 1, 4, none⟩ = some (.int .u8 (ps[4]?.getD 0)) := kc 1 (by omega)
        have p5 : w4.cell? ⟨w.heap.size + 1, 5, none⟩ = some (.int .u8 (ps[5]?.getD 0)) := kc 2 (by omega)
        have p6 : w4.cell? ⟨w.heap.size + 1, 6, none⟩ = some (.int .u8 (ps[6]?.getD 0)) := kc 3 (by omega)
        generalize ps[3]?.getD 0 = z3 at *
        generalize ps[4]?.getD 0 = z4 at *
        generalize ps[5]?.getD 0 = z5 at *
        generalize ps[6]?.getD 0 = z6 at *
        have hG7 := gR7 w4 gR4
        have hat : ∀ W, (Instr.arrayAt 59 (.slice (some ⟨w.heap.size + 1, 3, none⟩) 4 21)).run Tryz.prog W = .ok (.pointer (some ⟨w.heap.size + 1, 3, none⟩)) W := fun W => run_arrayAt W 59 _ 4 _ 4 21 Tryz.underlying59 (by omega)
        have RM5 := box_key rm4 z3 z4 z5 z6
        have RB5 := box_sc (box_sc (box_sc (box_sc rb4 m 3 (.int .u8 z3) hmn1) m 4 (.int .u8 z4) hmn1) m 5 (.int .u8 z5) hmn1) m 6 (.int .u8 z6) hmn1
        have G5 := good_sc (good_sc (good_sc (good_sc hG7 m 3 (.int .u8 z3) hmn4) m 4 (.int .u8 z4) hmn4) m 5 (.int .u8 z5) hmn4) m 6 (.int .u8 z6) hmn4
        have KW5 := below_sc (below_sc (below_sc (below_sc kw4 hmn3 (i := 3) (.int .u8 z3)) hmn3 (i := 4) (.int .u8 z4)) hmn3 (i := 5) (.int .u8 z5)) hmn3 (i := 6) (.int .u8 z6)
        have hms5 : m < (set4 w4 m z3 z4 z5 z6).heap.size ∧ w.heap.size < (set4 w4 m z3 z4 z5 z6).heap.size := by unfold set4; simp; omega
        unfold set4 at RM5 hms5
        clear hu hl17 gR7 kc gR4 hG7
        obtain ⟨mc0, mf0, mc1, mf1, mc2, mf2, mc3, mf3, mc4, mf4, mc5, mf5, mc6, mf6, mc7, mf7, mc8, mf8, mc9, mf9, mc10, mf10⟩ := boxC kI y 0 0 0 0 0 false 0 false 0 rm4
        go_wp2_with fail
        (with_reducible refine (F4 _ G5).mono ?_)
        rintro e w6 ⟨rfl, k6⟩
        have rm6 := RM5.below k6 hms5.1
        have rb6 := RB5.below k6 hms5.2
        have kw6 := below_more KW5 k6 (Nat.le_refl _)
        clear F4 mk RM5 RB5 G5 KW5 hms5 p3 p4 p5 p6 hat mc0 mf0 mc1 mf1 mc2 mf2 mc3 mf3 mc4 mf4 mc5 mf5 mc6 mf6 mc7 mf7 mc8 mf8 mc9 mf9 mc10 mf10
        obtain ⟨mc0, mf0, mc1, mf1, mc2, mf2, mc3, mf3, mc4, mf4, mc5, mf5, mc6, mf6, mc7, mf7, mc8, mf8, mc9, mf9, mc10, mf10⟩ := boxC kI y 0 z3 z4 z5 z6 false 0 false 0 rm6
        obtain ⟨nc0, nf0, nc1, nf1, nc2, nf2, nc3, nf3, nc4, nf4, nc5, nf5, nc6, nf6, nc7, nf7, nc8, nf8, nc9, nf9, nc10, nf10⟩ := boxC 0 0 0 0 0 0 0 false 0 false 0 rb6
        go_wp2
        refine bodyPost_ret (v := .agg #[.int .i64 kI, .int .i64 y, .int .u16 0, .int .u8 z3, .int .u8 z4, .int .u8 z5, .int .u8 z6, .bool t1, .int .i64 n1, .bool t2, .int .i64 n2]) ?_ rfl ⟨by rw [HE.out], ?_⟩
        · simp [results, Tryz.results89, go_sem, nc0, nc1, nc2, nc3, nc4, nc5, nc6, nc7, nc8, nc9, nc10]
        · repeat first | with_reducible exact kw6 | with_reducible refine below_sc ?_ (Nat.le_refl _) _ | with_reducible refine below_sc ?_ hmn3 _ | with_reducible refine Below.drew ?_
    · skip
      obtain ⟨q, hq⟩ : ∃ q, fromN ((ps.drop 3).take 2) = q := ⟨_, rfl⟩
      have hq2 : q < 65536 := by rw [← hq]; exact fromN_k (ps.drop 3) (hpz.drop 3) 2
      have HE : Hid (recV (read24 ps) = .agg #[.int .i64 kI, .int .i64 y, .int .u16 q, .int .u8 0, .int .u8 0, .int .u8 0, .int .u8 0, .bool false, .int .i64 0, .bool false, .int .i64 0]) := by
        apply Lib.hid
        have hk2 : ((h % 8 : Nat) : Int) + 1 = 2 ∨ ((h % 8 : Nat) : Int) + 1 = 8 := by have := HX.out; have := HK.out; simp at h8; omega
        unfold read24
        simp only [HH.out]
        rw [if_pos hk2, HX.out, HY.out, HK.out, hq]
        rfl
      have hlt : ((ps.drop 3).take 2).length = 2 := by rw [List.length_take, List.length_drop, HP.out]; rfl
      have F3 := from_yes (some ⟨w.heap.size + 1, 3, none⟩) 21 ((ps.drop 3).take 2) ((hpz.drop 3).take 2) (by omega) w4 (gR4.1.take 2)
      rw [hq, hlt] at F3
      clear hq hlt
      go_wp2_with fail
      (with_reducible refine F3.mono ?_)
      rintro e w5 ⟨rfl, k5⟩
      have rm5 := rm4.below k5 hms
      have rb5 := rb4.below k5 hns
      have kw5 := below_more kw4 k5 (Nat.le_refl _)
      clear F3 mk
      obtain ⟨mc0, mf0, mc1, mf1, mc2, mf2, mc3, mf3, mc4, mf4, mc5, mf5, mc6, mf6, mc7, mf7, mc8, mf8, mc9, mf9, mc10, mf10⟩ := boxC kI y 0 0 0 0 0 false 0 false 0 rm5
      obtain ⟨nc0, nf0, nc1, nf1, nc2, nf2, nc3, nf3, nc4, nf4, nc5, nf5, nc6, nf6, nc7, nf7, nc8, nf8, nc9, nf9, nc10, nf10⟩ := boxC 0 0 0 0 0 0 0 false 0 false 0 rb5
      go_wp2
      refine bodyPost_ret (v := .agg #[.int .i64 kI, .int .i64 y, .int .u16 q, .int .u8 0, .int .u8 0, .int .u8 0, .int .u8 0, .bool false, .int .i64 0, .bool false, .int .i64 0]) ?_ rfl ⟨by rw [HE.out], ?_⟩
      · simp [results, Tryz.results89, go_sem, nc0, nc1, nc2, nc3, nc4, nc5, nc6, nc7, nc8, nc9, nc10]
      · repeat first | with_reducible exact kw5 | with_reducible refine below_sc ?_ (Nat.le_refl _) _ | with_reducible refine below_sc ?_ hmn3 _ | with_reducible refine Below.drew ?_
  · skip
    obtain ⟨q, hq⟩ : ∃ q, fromN ((ps.drop 3).take 2) = q := ⟨_, rfl⟩
    have hq2 : q < 65536 := by rw [← hq]; exact fromN_k (ps.drop 3) (hpz.drop 3) 2
    have HE : Hid (recV (read24 ps) = .agg #[.int .i64 kI, .int .i64 y, .int .u16 q, .int .u8 0, .int .u8 0, .int .u8 0, .int .u8 0, .bool false, .int .i64 0, .bool false, .int .i64 0]) := by
      apply Lib.hid
      have hk2 : ((h % 8 : Nat) : Int) + 1 = 2 ∨ ((h % 8 : Nat) : Int) + 1 = 8 := by have := HX.out; have := HK.out; simp at h2; omega
      unfold read24
      simp only [HH.out]
      rw [if_pos hk2, HX.out, HY.out, HK.out, hq]
      rfl
    have hlt : ((ps.drop 3).take 2).length = 2 := by rw [List.length_take, List.length_drop, HP.out]; rfl
    have F3 := from_yes (some ⟨w.heap.size + 1, 3, none⟩) 21 ((ps.drop 3).take 2) ((hpz.drop 3).take 2) (by omega) w4 (gR4.1.take 2)
    rw [hq, hlt] at F3
    clear hq hlt
    go_wp2_with fail
    (with_reducible refine F3.mono ?_)
    rintro e w5 ⟨rfl, k5⟩
    have rm5 := rm4.below k5 hms
    have rb5 := rb4.below k5 hns
    have kw5 := below_more kw4 k5 (Nat.le_refl _)
    clear F3 mk
    obtain ⟨mc0, mf0, mc1, mf1, mc2, mf2, mc3, mf3, mc4, mf4, mc5, mf5, mc6, mf6, mc7, mf7, mc8, mf8, mc9, mf9, mc10, mf10⟩ := boxC kI y 0 0 0 0 0 false 0 false 0 rm5
    obtain ⟨nc0, nf0, nc1, nf1, nc2, nf2, nc3, nf3, nc4, nf4, nc5, nf5, nc6, nf6, nc7, nf7, nc8, nf8, nc9, nf9, nc10, nf10⟩ := boxC 0 0 0 0 0 0 0 false 0 false 0 rb5
    go_wp2
    refine bodyPost_ret (v := .agg #[.int .i64 kI, .int .i64 y, .int .u16 q, .int .u8 0, .int .u8 0, .int .u8 0, .int .u8 0, .bool false, .int .i64 0, .bool false, .int .i64 0]) ?_ rfl ⟨by rw [HE.out], ?_⟩
    · simp [results, Tryz.results89, go_sem, nc0, nc1, nc2, nc3, nc4, nc5, nc6, nc7, nc8, nc9, nc10]
    · repeat first | with_reducible exact kw5 | with_reducible refine below_sc ?_ (Nat.le_refl _) _ | with_reducible refine below_sc ?_ hmn3 _ | with_reducible refine Below.drew ?_
end Go.Proofs.YtdmkkfpbgpijjaaGreat
