/- rec.Encode: a record's bytes, for every record. -/
import Derived.Test.YtdmkkfpbgpijjaaGreatWah
namespace Go.Proofs.YtdmkkfpbgpijjaaGreat
open Go.RowKit Go.Deep
set_option linter.unusedVariables false

/-- A record lies in a block. -/
structure RecAt (W : World) (b : Nat) (r : RecD) : Prop where
  c0 : W.cell? ⟨b, 0, none⟩ = some (.int .i64 r.kind)
  c1 : W.cell? ⟨b, 1, none⟩ = some (.int .i64 r.tx)
  c2 : W.cell? ⟨b, 2, none⟩ = some (.int .u16 r.mask)
  c3 : W.cell? ⟨b, 3, none⟩ = some (.int .u8 r.k0)
  c4 : W.cell? ⟨b, 4, none⟩ = some (.int .u8 r.k1)
  c5 : W.cell? ⟨b, 5, none⟩ = some (.int .u8 r.k2)
  c6 : W.cell? ⟨b, 6, none⟩ = some (.int .u8 r.k3)
  c7 : W.cell? ⟨b, 7, none⟩ = some (.bool r.oT)
  c8 : W.cell? ⟨b, 8, none⟩ = some (.int .i64 r.oN)
  c9 : W.cell? ⟨b, 9, none⟩ = some (.bool r.nT)
  c10 : W.cell? ⟨b, 10, none⟩ = some (.int .i64 r.nN)
theorem recAt_new (w : World) (r : RecD) : RecAt (w.alloc (.cells (recA r) 63)) w.heap.size r := by
  have h := fun i v hi => cell_of_row (w.alloc (.cells (recA r) 63)) w.heap.size i v 63 (0, 0) hi
  constructor <;> exact h _ _ (heap_alloc_new w _)
theorem RecAt.below {W W' : World} {b B : Nat} {r : RecD} (h : RecAt W b r) (hb : Below B W W') (hB : b < B) : RecAt W' b r :=
  have k : ∀ i, W'.cell? ⟨b, i, none⟩ = W.cell? ⟨b, i, none⟩ := fun i => hb.cell (p := ⟨b, i, none⟩) hB
  ⟨(k 0).trans h.c0, (k 1).trans h.c1, (k 2).trans h.c2, (k 3).trans h.c3, (k 4).trans h.c4, (k 5).trans h.c5, (k 6).trans h.c6, (k 7).trans h.c7, (k 8).trans h.c8, (k 9).trans h.c9, (k 10).trans h.c10⟩
theorem RecAt.lt {W : World} {b : Nat} {r : RecD} (h : RecAt W b r) : b < W.heap.size := World.block_lt_of_cell? W _ h.c0
theorem RecAt.key {W : World} {b : Nat} {r : RecD} (h : RecAt W b r) : Good (some ⟨b, 3, none⟩) 4 [r.k0, r.k1, r.k2, r.k3] W := by
  refine ⟨fun _ => ⟨b, 3, rfl, h.lt, fun j hj => ?_⟩, by simp, fun e => by cases e⟩
  match j, hj with
  | 0, _ => exact h.c3
  | 1, _ => exact h.c4
  | 2, _ => exact h.c5
  | 3, _ => exact h.c6
theorem ints_two (k : IntKind) (w : World) (a b : Int) (t : TypeId) : Ints k (w.alloc (.cells #[.int k a, .int k b] t)).heap.size (w.alloc (.cells #[.int k a, .int k b] t)) (some ⟨w.heap.size, 0, none⟩) [a, b] := ints_lit k w [a, b] t _ rfl
theorem ints_two_drew (k : IntKind) (w : World) (a b : Int) (t : TypeId) : Ints k (w.alloc (.cells #[.int k a, .int k b] t)).drew.heap.size (w.alloc (.cells #[.int k a, .int k b] t)).drew (some ⟨w.heap.size, 0, none⟩) [a, b] := ints_two k w a b t
theorem right_bd (r : RecD) (h : rightB r = true) : 1 ≤ r.kind ∧ r.kind ≤ 8 ∧ 0 ≤ r.tx ∧ r.tx ≤ 1048576 := by
  unfold rightB at h
  split at h
  · simp [okTx] at h; omega
  · split at h
    · simp [okTx] at h; omega
    · split at h
      · simp [okTx] at h; omega
      · split at h
        · simp [eqR] at h; omega
        · split at h
          · simp [eqR] at h; omega
          · cases h
theorem headN_lt (r : RecD) (h : rightB r = true) : headN r < 16777216 := by
  have := right_bd r h
  unfold headN; omega

def EncSays (r : RecD) (w : World) (e : Ending) (w' : World) : Prop := ∃ v, e = .returned (.tuple #[v, .bool true]) ∧ Owns w.heap.size w' v (encL r) ∧ Below w.heap.size w w'
set_option maxRecDepth 100000 in
set_option maxHeartbeats 2000000 in
theorem enc_plain (r : RecD) (hr : rightB r = true) (ok : okR r) (h2 : (r.kind == 2) = false) (h8 : (r.kind == 8) = false) (h1 : (r.kind == 1) = false) (h7 : (r.kind == 7) = false) (w : World) : Calls Tryz.prog 70 #[recV r] w (EncSays r w) := by
  have hbd := right_bd r hr
  have hlt := headN_lt r hr
  have c0 : ∀ W, Calls Tryz.prog 83 #[.agg #[.int .i64 r.kind, .int .i64 r.tx, .int .u16 r.mask, .int .u8 r.k0, .int .u8 r.k1, .int .u8 r.k2, .int .u8 r.k3, .bool r.oT, .int .i64 r.oN, .bool r.nT, .int .i64 r.nN]] W fun e w' => e = .returned (.bool true) ∧ Below W.heap.size W w' := fun W => right_any r true hr W
  obtain ⟨W0, hW0⟩ : ∃ W0, W0 = w.alloc (.cells #[.int .i64 r.kind, .int .i64 r.tx, .int .u16 r.mask, .int .u8 r.k0, .int .u8 r.k1, .int .u8 r.k2, .int .u8 r.k3, .bool r.oT, .int .i64 r.oN, .bool r.nT, .int .i64 r.nN] 63) := ⟨_, rfl⟩
  have hR0 : RecAt W0 w.heap.size r := by rw [hW0]; exact recAt_new w r
  have hs0 : W0.heap.size = w.heap.size + 1 := by rw [hW0]; simp
  have hw0 : Below w.heap.size w W0 := by rw [hW0]; exact (Below.refl _ _).alloc (Nat.le_refl _) _
  have kS : ∀ W, Below (w.heap.size + 1) W0 W → (W.cell? ⟨w.heap.size, 0, none⟩ = some (.int .i64 r.kind) ∧ W.cell? ⟨w.heap.size, 1, none⟩ = some (.int .i64 r.tx) ∧ Below (w.heap.size + 1) W0 W) := fun W hb => have h := hR0.below hb (by omega); ⟨h.c0, h.c1, hb⟩
  have hsz : ∀ W, Below (w.heap.size + 1) W0 W → w.heap.size + 1 ≤ W.heap.size := fun W hb => by have := hb.size; omega
  have kA : ∀ W o, Below (w.heap.size + 1) W0 W → Below (w.heap.size + 1) W0 (W.alloc o) := fun W o hb => hb.alloc (hsz W hb) o
  have kT : ∀ W W', Below (w.heap.size + 1) W0 W → Below W.heap.size W W' → Below (w.heap.size + 1) W0 W' := fun W W' hb hk => hb.trans (hk.mono (hsz W hb))
  have kSD : ∀ W, (W.cell? ⟨w.heap.size, 0, none⟩ = some (.int .i64 r.kind) ∧ W.cell? ⟨w.heap.size, 1, none⟩ = some (.int .i64 r.tx) ∧ Below (w.heap.size + 1) W0 W) → (W.drew.cell? ⟨w.heap.size, 0, none⟩ = some (.int .i64 r.kind) ∧ W.drew.cell? ⟨w.heap.size, 1, none⟩ = some (.int .i64 r.tx) ∧ Below (w.heap.size + 1) W0 W.drew) := fun W h => kS _ h.2.2.drew
  have kSA : ∀ W o, (W.cell? ⟨w.heap.size, 0, none⟩ = some (.int .i64 r.kind) ∧ W.cell? ⟨w.heap.size, 1, none⟩ = some (.int .i64 r.tx) ∧ Below (w.heap.size + 1) W0 W) → ((W.alloc o).cell? ⟨w.heap.size, 0, none⟩ = some (.int .i64 r.kind) ∧ (W.alloc o).cell? ⟨w.heap.size, 1, none⟩ = some (.int .i64 r.tx) ∧ Below (w.heap.size + 1) W0 (W.alloc o)) := fun W o h => kS _ (kA _ o h.2.2)
  have hp := head_pack r.kind r.tx hbd.1 hbd.2.1 hbd.2.2.1 hbd.2.2.2
  have F1 : ∀ W, (W.cell? ⟨w.heap.size, 0, none⟩ = some (.int .i64 r.kind) ∧ W.cell? ⟨w.heap.size, 1, none⟩ = some (.int .i64 r.tx) ∧ Below (w.heap.size + 1) W0 W) → Calls Tryz.prog 85 #[] W fun e w' => ∃ A, e = .returned (.slice A 2 2) ∧ Ints .i64 w'.heap.size w' A [3, 21] ∧ Below W.heap.size W w' ∧ (w'.cell? ⟨w.heap.size, 0, none⟩ = some (.int .i64 r.kind) ∧ w'.cell? ⟨w.heap.size, 1, none⟩ = some (.int .i64 r.tx) ∧ Below (w.heap.size + 1) W0 w') := fun W h => by
    refine (headWidths_any W).mono ?_
    rintro e w' ⟨rfl, i, k⟩
    exact ⟨_, rfl, i, k, kS _ (kT _ _ h.2.2 k)⟩
  have F2 : ∀ A A' c c' W, Ints .i64 W.heap.size W A [3, 21] → Ints .i64 W.heap.size W A' [r.kind - 1, r.tx] → Calls Tryz.prog 84 #[.int .i64 3, .slice A 2 c, .slice A' 2 c'] W (GivesB (bytesL (headN r) 3) W) := fun A A' c c' W =>
    packed_any 3 (headN r) [3, 21] [r.kind - 1, r.tx] A A' c c' 2 2 (by omega) rfl rfl hp.2.2 hp.1 hp.2.1 (by omega) (by simp; omega) W
  have he : encL r = bytesL (headN r) 3 := by
    simp at h2 h8 h1 h7
    simp [encL, tailL, h2, h8, h1, h7]
  unfold EncSays
  rw [he]
  have hhl : (bytesL (headN r) 3).length = 3 := bytesL_length _ _
  generalize bytesL (headN r) 3 = hd at *
  have hid := Lib.hid hhl
  clear hhl he
  obtain ⟨hbd1, hbd2, hbd3, hbd4⟩ := hbd
  clear hp hr ok hlt
  rw [recV_eq]
  go_enter Tryz.func70, Tryz.ntmps70
  go_wp2_with fail
  refine (c0 _).mono ?_
  rintro e w1 ⟨rfl, b1⟩
  rw [← hW0] at b1
  have s1 := kS _ (b1.mono (by omega))
  clear hW0 c0
  go_wp2_with fail
  have hwr : IntKind.i64.wrap (r.kind - 1) = r.kind - 1 := IntWalk.i64_in _ (by omega)
  go_region_held3 (fun w' => (w'.cell? ⟨w.heap.size, 0, none⟩ = some (.int .i64 r.kind) ∧ w'.cell? ⟨w.heap.size, 1, none⟩ = some (.int .i64 r.tx) ∧ Below (w.heap.size + 1) W0 w')) (first | assumption | exact kSD _ (by assumption) | exact kSA _ _ (by assumption)) (first
    | (go_at_call 85; (with_reducible refine (F1 _ (by first | assumption | exact kSD _ (by assumption) | exact kSA _ _ (by assumption))).mono ?_); rintro e w3 ⟨A3, rfl, i3, k3, s3⟩)
    | (go_at_call 84; (with_reducible refine (F2 _ _ _ _ _ (i3.more' _) (ints_two .i64 w3 _ _ 3)).mono ?_); rintro e w4 ⟨v4, rfl, o4, k4⟩; have hX := kA w3 (.cells #[.int .i64 (r.kind - 1), .int .i64 r.tx] 3) s3.2.2; have s4 := kS _ (kT _ _ hX k4))
    | (go_at_call 84; (with_reducible refine (F2 _ _ _ _ _ i3 (((ints_two_drew .i64 _ _ _ 3).below k3 (Nat.le_refl _)).more k3.size)).mono ?_); rintro e w4 ⟨v4, rfl, o4, k4⟩; have hX := s3.2.2; have s4 := kS _ (kT _ _ hX k4)))
  all_goals
    clear F1 F2 hwr
    obtain ⟨X, o4, k4, hX⟩ : ∃ X : World, Owns X.heap.size w4 v4 hd ∧ Below X.heap.size X w4 ∧ Below (w.heap.size + 1) W0 X := ⟨_, o4, k4, hX⟩
    have RX := hR0.below hX (by omega)
    have hXs := hsz _ hX
    have hXw : Below w.heap.size w X := hw0.trans (hX.mono (by omega))
    clear s1 s3 s4 kSD kSA kA kT kS hsz i3 k3 b1 hR0 hX hw0
    have RW := RX.below k4 (by omega)
    have ck := RW.c0
    clear RW
    go_wp2
    go_ret2
    exact ⟨v4, rfl, o4.base hXw.size, below_more hXw k4 (Nat.le_refl _)⟩
set_option maxRecDepth 100000 in
set_option maxHeartbeats 2000000 in
theorem enc_2 (r : RecD) (hr : rightB r = true) (ok : okR r) (h2 : (r.kind == 2) = true) (w : World) : Calls Tryz.prog 70 #[recV r] w (EncSays r w) := by
  have hbd := right_bd r hr
  have hlt := headN_lt r hr
  have c0 : ∀ W, Calls Tryz.prog 83 #[.agg #[.int .i64 r.kind, .int .i64 r.tx, .int .u16 r.mask, .int .u8 r.k0, .int .u8 r.k1, .int .u8 r.k2, .int .u8 r.k3, .bool r.oT, .int .i64 r.oN, .bool r.nT, .int .i64 r.nN]] W fun e w' => e = .returned (.bool true) ∧ Below W.heap.size W w' := fun W => right_any r true hr W
  obtain ⟨W0, hW0⟩ : ∃ W0, W0 = w.alloc (.cells #[.int .i64 r.kind, .int .i64 r.tx, .int .u16 r.mask, .int .u8 r.k0, .int .u8 r.k1, .int .u8 r.k2, .int .u8 r.k3, .bool r.oT, .int .i64 r.oN, .bool r.nT, .int .i64 r.nN] 63) := ⟨_, rfl⟩
  have hR0 : RecAt W0 w.heap.size r := by rw [hW0]; exact recAt_new w r
  have hs0 : W0.heap.size = w.heap.size + 1 := by rw [hW0]; simp
  have hw0 : Below w.heap.size w W0 := by rw [hW0]; exact (Below.refl _ _).alloc (Nat.le_refl _) _
  have kS : ∀ W, Below (w.heap.size + 1) W0 W → (W.cell? ⟨w.heap.size, 0, none⟩ = some (.int .i64 r.kind) ∧ W.cell? ⟨w.heap.size, 1, none⟩ = some (.int .i64 r.tx) ∧ Below (w.heap.size + 1) W0 W) := fun W hb => have h := hR0.below hb (by omega); ⟨h.c0, h.c1, hb⟩
  have hsz : ∀ W, Below (w.heap.size + 1) W0 W → w.heap.size + 1 ≤ W.heap.size := fun W hb => by have := hb.size; omega
  have kA : ∀ W o, Below (w.heap.size + 1) W0 W → Below (w.heap.size + 1) W0 (W.alloc o) := fun W o hb => hb.alloc (hsz W hb) o
  have kT : ∀ W W', Below (w.heap.size + 1) W0 W → Below W.heap.size W W' → Below (w.heap.size + 1) W0 W' := fun W W' hb hk => hb.trans (hk.mono (hsz W hb))
  have kSD : ∀ W, (W.cell? ⟨w.heap.size, 0, none⟩ = some (.int .i64 r.kind) ∧ W.cell? ⟨w.heap.size, 1, none⟩ = some (.int .i64 r.tx) ∧ Below (w.heap.size + 1) W0 W) → (W.drew.cell? ⟨w.heap.size, 0, none⟩ = some (.int .i64 r.kind) ∧ W.drew.cell? ⟨w.heap.size, 1, none⟩ = some (.int .i64 r.tx) ∧ Below (w.heap.size + 1) W0 W.drew) := fun W h => kS _ h.2.2.drew
  have kSA : ∀ W o, (W.cell? ⟨w.heap.size, 0, none⟩ = some (.int .i64 r.kind) ∧ W.cell? ⟨w.heap.size, 1, none⟩ = some (.int .i64 r.tx) ∧ Below (w.heap.size + 1) W0 W) → ((W.alloc o).cell? ⟨w.heap.size, 0, none⟩ = some (.int .i64 r.kind) ∧ (W.alloc o).cell? ⟨w.heap.size, 1, none⟩ = some (.int .i64 r.tx) ∧ Below (w.heap.size + 1) W0 (W.alloc o)) := fun W o h => kS _ (kA _ o h.2.2)
  have hp := head_pack r.kind r.tx hbd.1 hbd.2.1 hbd.2.2.1 hbd.2.2.2
  have F1 : ∀ W, (W.cell? ⟨w.heap.size, 0, none⟩ = some (.int .i64 r.kind) ∧ W.cell? ⟨w.heap.size, 1, none⟩ = some (.int .i64 r.tx) ∧ Below (w.heap.size + 1) W0 W) → Calls Tryz.prog 85 #[] W fun e w' => ∃ A, e = .returned (.slice A 2 2) ∧ Ints .i64 w'.heap.size w' A [3, 21] ∧ Below W.heap.size W w' ∧ (w'.cell? ⟨w.heap.size, 0, none⟩ = some (.int .i64 r.kind) ∧ w'.cell? ⟨w.heap.size, 1, none⟩ = some (.int .i64 r.tx) ∧ Below (w.heap.size + 1) W0 w') := fun W h => by
    refine (headWidths_any W).mono ?_
    rintro e w' ⟨rfl, i, k⟩
    exact ⟨_, rfl, i, k, kS _ (kT _ _ h.2.2 k)⟩
  have F2 : ∀ A A' c c' W, Ints .i64 W.heap.size W A [3, 21] → Ints .i64 W.heap.size W A' [r.kind - 1, r.tx] → Calls Tryz.prog 84 #[.int .i64 3, .slice A 2 c, .slice A' 2 c'] W (GivesB (bytesL (headN r) 3) W) := fun A A' c c' W =>
    packed_any 3 (headN r) [3, 21] [r.kind - 1, r.tx] A A' c c' 2 2 (by omega) rfl rfl hp.2.2 hp.1 hp.2.1 (by omega) (by simp; omega) W
  have he : encL r = bytesL (headN r) 3 ++ bytesL r.mask 2 := by
    simp at *
    simp [encL, tailL, *]
  unfold EncSays
  rw [he]
  have hmk := ok.mask
  have F3 : ∀ W, Calls Tryz.prog 86 #[.int .u64 r.mask, .int .i64 2] W (GivesB (bytesL r.mask 2) W) := fun W => bytes_owns r.mask (by omega) 2 (by omega) (by simp; omega) W
  have hl2 : (bytesL r.mask 2).length = 2 := bytesL_length _ _
  have HL2 := Lib.hid hl2
  clear hl2
  generalize bytesL r.mask 2 = ms at *
  have hhl : (bytesL (headN r) 3).length = 3 := bytesL_length _ _
  generalize bytesL (headN r) 3 = hd at *
  have hid := Lib.hid hhl
  clear hhl he
  obtain ⟨hbd1, hbd2, hbd3, hbd4⟩ := hbd
  clear hp hr ok hlt
  rw [recV_eq]
  go_enter Tryz.func70, Tryz.ntmps70
  go_wp2_with fail
  refine (c0 _).mono ?_
  rintro e w1 ⟨rfl, b1⟩
  rw [← hW0] at b1
  have s1 := kS _ (b1.mono (by omega))
  clear hW0 c0
  go_wp2_with fail
  have hwr : IntKind.i64.wrap (r.kind - 1) = r.kind - 1 := IntWalk.i64_in _ (by omega)
  go_region_held3 (fun w' => (w'.cell? ⟨w.heap.size, 0, none⟩ = some (.int .i64 r.kind) ∧ w'.cell? ⟨w.heap.size, 1, none⟩ = some (.int .i64 r.tx) ∧ Below (w.heap.size + 1) W0 w')) (first | assumption | exact kSD _ (by assumption) | exact kSA _ _ (by assumption)) (first
    | (go_at_call 85; (with_reducible refine (F1 _ (by first | assumption | exact kSD _ (by assumption) | exact kSA _ _ (by assumption))).mono ?_); rintro e w3 ⟨A3, rfl, i3, k3, s3⟩)
    | (go_at_call 84; (with_reducible refine (F2 _ _ _ _ _ (i3.more' _) (ints_two .i64 w3 _ _ 3)).mono ?_); rintro e w4 ⟨v4, rfl, o4, k4⟩; have hX := kA w3 (.cells #[.int .i64 (r.kind - 1), .int .i64 r.tx] 3) s3.2.2; have s4 := kS _ (kT _ _ hX k4))
    | (go_at_call 84; (with_reducible refine (F2 _ _ _ _ _ i3 (((ints_two_drew .i64 _ _ _ 3).below k3 (Nat.le_refl _)).more k3.size)).mono ?_); rintro e w4 ⟨v4, rfl, o4, k4⟩; have hX := s3.2.2; have s4 := kS _ (kT _ _ hX k4)))
  all_goals
    clear F1 F2 hwr
    obtain ⟨X, o4, k4, hX⟩ : ∃ X : World, Owns X.heap.size w4 v4 hd ∧ Below X.heap.size X w4 ∧ Below (w.heap.size + 1) W0 X := ⟨_, o4, k4, hX⟩
    have RX := hR0.below hX (by omega)
    have hXs := hsz _ hX
    have hXw : Below w.heap.size w X := hw0.trans (hX.mono (by omega))
    clear s1 s3 s4 kSD kSA kA kT kS hsz i3 k3 b1 hR0 hX hw0
    have RW := RX.below k4 (by omega)
    have ck := RW.c0
    have cm := RW.c2
    clear RW
    go_wp2_with fail
    refine (F3 _).mono ?_
    rintro e w5 ⟨v5, rfl, o5, k5⟩
    obtain ⟨A5, c5, rfl, g5⟩ := o5.good
    rw [HL2.out]
    have o4' := o4.below k5
    have k4' := below_more k4 k5 (Nat.le_refl _)
    clear F3
    go_wp2_with (at_builtin; refine wpList_appendB rfl _ _ rfl X.heap.size v4 hd rfl o4' A5 ms 2 c5 rfl HL2.out g5 (by rw [hid.out, HL2.out]; omega) k4'.size X k4' ?_; intro v6 w6 o6 k6)
    go_ret2
    exact ⟨v6, rfl, o6.base hXw.size, below_more hXw k6 (Nat.le_refl _)⟩
set_option maxRecDepth 100000 in
set_option maxHeartbeats 2000000 in
theorem enc_8 (r : RecD) (hr : rightB r = true) (ok : okR r) (h2 : (r.kind == 2) = false) (h8 : (r.kind == 8) = true) (w : World) : Calls Tryz.prog 70 #[recV r] w (EncSays r w) := by
  have hbd := right_bd r hr
  have hlt := headN_lt r hr
  have c0 : ∀ W, Calls Tryz.prog 83 #[.agg #[.int .i64 r.kind, .int .i64 r.tx, .int .u16 r.mask, .int .u8 r.k0, .int .u8 r.k1, .int .u8 r.k2, .int .u8 r.k3, .bool r.oT, .int .i64 r.oN, .bool r.nT, .int .i64 r.nN]] W fun e w' => e = .returned (.bool true) ∧ Below W.heap.size W w' := fun W => right_any r true hr W
  obtain ⟨W0, hW0⟩ : ∃ W0, W0 = w.alloc (.cells #[.int .i64 r.kind, .int .i64 r.tx, .int .u16 r.mask, .int .u8 r.k0, .int .u8 r.k1, .int .u8 r.k2, .int .u8 r.k3, .bool r.oT, .int .i64 r.oN, .bool r.nT, .int .i64 r.nN] 63) := ⟨_, rfl⟩
  have hR0 : RecAt W0 w.heap.size r := by rw [hW0]; exact recAt_new w r
  have hs0 : W0.heap.size = w.heap.size + 1 := by rw [hW0]; simp
  have hw0 : Below w.heap.size w W0 := by rw [hW0]; exact (Below.refl _ _).alloc (Nat.le_refl _) _
  have kS : ∀ W, Below (w.heap.size + 1) W0 W → (W.cell? ⟨w.heap.size, 0, none⟩ = some (.int .i64 r.kind) ∧ W.cell? ⟨w.heap.size, 1, none⟩ = some (.int .i64 r.tx) ∧ Below (w.heap.size + 1) W0 W) := fun W hb => have h := hR0.below hb (by omega); ⟨h.c0, h.c1, hb⟩
  have hsz : ∀ W, Below (w.heap.size + 1) W0 W → w.heap.size + 1 ≤ W.heap.size := fun W hb => by have := hb.size; omega
  have kA : ∀ W o, Below (w.heap.size + 1) W0 W → Below (w.heap.size + 1) W0 (W.alloc o) := fun W o hb => hb.alloc (hsz W hb) o
  have kT : ∀ W W', Below (w.heap.size + 1) W0 W → Below W.heap.size W W' → Below (w.heap.size + 1) W0 W' := fun W W' hb hk => hb.trans (hk.mono (hsz W hb))
  have kSD : ∀ W, (W.cell? ⟨w.heap.size, 0, none⟩ = some (.int .i64 r.kind) ∧ W.cell? ⟨w.heap.size, 1, none⟩ = some (.int .i64 r.tx) ∧ Below (w.heap.size + 1) W0 W) → (W.drew.cell? ⟨w.heap.size, 0, none⟩ = some (.int .i64 r.kind) ∧ W.drew.cell? ⟨w.heap.size, 1, none⟩ = some (.int .i64 r.tx) ∧ Below (w.heap.size + 1) W0 W.drew) := fun W h => kS _ h.2.2.drew
  have kSA : ∀ W o, (W.cell? ⟨w.heap.size, 0, none⟩ = some (.int .i64 r.kind) ∧ W.cell? ⟨w.heap.size, 1, none⟩ = some (.int .i64 r.tx) ∧ Below (w.heap.size + 1) W0 W) → ((W.alloc o).cell? ⟨w.heap.size, 0, none⟩ = some (.int .i64 r.kind) ∧ (W.alloc o).cell? ⟨w.heap.size, 1, none⟩ = some (.int .i64 r.tx) ∧ Below (w.heap.size + 1) W0 (W.alloc o)) := fun W o h => kS _ (kA _ o h.2.2)
  have hp := head_pack r.kind r.tx hbd.1 hbd.2.1 hbd.2.2.1 hbd.2.2.2
  have F1 : ∀ W, (W.cell? ⟨w.heap.size, 0, none⟩ = some (.int .i64 r.kind) ∧ W.cell? ⟨w.heap.size, 1, none⟩ = some (.int .i64 r.tx) ∧ Below (w.heap.size + 1) W0 W) → Calls Tryz.prog 85 #[] W fun e w' => ∃ A, e = .returned (.slice A 2 2) ∧ Ints .i64 w'.heap.size w' A [3, 21] ∧ Below W.heap.size W w' ∧ (w'.cell? ⟨w.heap.size, 0, none⟩ = some (.int .i64 r.kind) ∧ w'.cell? ⟨w.heap.size, 1, none⟩ = some (.int .i64 r.tx) ∧ Below (w.heap.size + 1) W0 w') := fun W h => by
    refine (headWidths_any W).mono ?_
    rintro e w' ⟨rfl, i, k⟩
    exact ⟨_, rfl, i, k, kS _ (kT _ _ h.2.2 k)⟩
  have F2 : ∀ A A' c c' W, Ints .i64 W.heap.size W A [3, 21] → Ints .i64 W.heap.size W A' [r.kind - 1, r.tx] → Calls Tryz.prog 84 #[.int .i64 3, .slice A 2 c, .slice A' 2 c'] W (GivesB (bytesL (headN r) 3) W) := fun A A' c c' W =>
    packed_any 3 (headN r) [3, 21] [r.kind - 1, r.tx] A A' c c' 2 2 (by omega) rfl rfl hp.2.2 hp.1 hp.2.1 (by omega) (by simp; omega) W
  have he : encL r = bytesL (headN r) 3 ++ bytesL r.mask 2 := by
    simp at *
    simp [encL, tailL, *]
  unfold EncSays
  rw [he]
  have hmk := ok.mask
  have F3 : ∀ W, Calls Tryz.prog 86 #[.int .u64 r.mask, .int .i64 2] W (GivesB (bytesL r.mask 2) W) := fun W => bytes_owns r.mask (by omega) 2 (by omega) (by simp; omega) W
  have hl2 : (bytesL r.mask 2).length = 2 := bytesL_length _ _
  have HL2 := Lib.hid hl2
  clear hl2
  generalize bytesL r.mask 2 = ms at *
  have hhl : (bytesL (headN r) 3).length = 3 := bytesL_length _ _
  generalize bytesL (headN r) 3 = hd at *
  have hid := Lib.hid hhl
  clear hhl he
  obtain ⟨hbd1, hbd2, hbd3, hbd4⟩ := hbd
  clear hp hr ok hlt
  rw [recV_eq]
  go_enter Tryz.func70, Tryz.ntmps70
  go_wp2_with fail
  refine (c0 _).mono ?_
  rintro e w1 ⟨rfl, b1⟩
  rw [← hW0] at b1
  have s1 := kS _ (b1.mono (by omega))
  clear hW0 c0
  go_wp2_with fail
  have hwr : IntKind.i64.wrap (r.kind - 1) = r.kind - 1 := IntWalk.i64_in _ (by omega)
  go_region_held3 (fun w' => (w'.cell? ⟨w.heap.size, 0, none⟩ = some (.int .i64 r.kind) ∧ w'.cell? ⟨w.heap.size, 1, none⟩ = some (.int .i64 r.tx) ∧ Below (w.heap.size + 1) W0 w')) (first | assumption | exact kSD _ (by assumption) | exact kSA _ _ (by assumption)) (first
    | (go_at_call 85; (with_reducible refine (F1 _ (by first | assumption | exact kSD _ (by assumption) | exact kSA _ _ (by assumption))).mono ?_); rintro e w3 ⟨A3, rfl, i3, k3, s3⟩)
    | (go_at_call 84; (with_reducible refine (F2 _ _ _ _ _ (i3.more' _) (ints_two .i64 w3 _ _ 3)).mono ?_); rintro e w4 ⟨v4, rfl, o4, k4⟩; have hX := kA w3 (.cells #[.int .i64 (r.kind - 1), .int .i64 r.tx] 3) s3.2.2; have s4 := kS _ (kT _ _ hX k4))
    | (go_at_call 84; (with_reducible refine (F2 _ _ _ _ _ i3 (((ints_two_drew .i64 _ _ _ 3).below k3 (Nat.le_refl _)).more k3.size)).mono ?_); rintro e w4 ⟨v4, rfl, o4, k4⟩; have hX := s3.2.2; have s4 := kS _ (kT _ _ hX k4)))
  all_goals
    clear F1 F2 hwr
    obtain ⟨X, o4, k4, hX⟩ : ∃ X : World, Owns X.heap.size w4 v4 hd ∧ Below X.heap.size X w4 ∧ Below (w.heap.size + 1) W0 X := ⟨_, o4, k4, hX⟩
    have RX := hR0.below hX (by omega)
    have hXs := hsz _ hX
    have hXw : Below w.heap.size w X := hw0.trans (hX.mono (by omega))
    clear s1 s3 s4 kSD kSA kA kT kS hsz i3 k3 b1 hR0 hX hw0
    have RW := RX.below k4 (by omega)
    have ck := RW.c0
    have cm := RW.c2
    clear RW
    go_wp2_with fail
    refine (F3 _).mono ?_
    rintro e w5 ⟨v5, rfl, o5, k5⟩
    obtain ⟨A5, c5, rfl, g5⟩ := o5.good
    rw [HL2.out]
    have o4' := o4.below k5
    have k4' := below_more k4 k5 (Nat.le_refl _)
    clear F3
    go_wp2_with (at_builtin; refine wpList_appendB rfl _ _ rfl X.heap.size v4 hd rfl o4' A5 ms 2 c5 rfl HL2.out g5 (by rw [hid.out, HL2.out]; omega) k4'.size X k4' ?_; intro v6 w6 o6 k6)
    go_ret2
    exact ⟨v6, rfl, o6.base hXw.size, below_more hXw k6 (Nat.le_refl _)⟩
set_option maxRecDepth 100000 in
set_option maxHeartbeats 2000000 in
theorem enc_1 (r : RecD) (hr : rightB r = true) (ok : okR r) (h2 : (r.kind == 2) = false) (h8 : (r.kind == 8) = false) (h1 : (r.kind == 1) = true) (w : World) : Calls Tryz.prog 70 #[recV r] w (EncSays r w) := by
  have hbd := right_bd r hr
  have hlt := headN_lt r hr
  have c0 : ∀ W, Calls Tryz.prog 83 #[.agg #[.int .i64 r.kind, .int .i64 r.tx, .int .u16 r.mask, .int .u8 r.k0, .int .u8 r.k1, .int .u8 r.k2, .int .u8 r.k3, .bool r.oT, .int .i64 r.oN, .bool r.nT, .int .i64 r.nN]] W fun e w' => e = .returned (.bool true) ∧ Below W.heap.size W w' := fun W => right_any r true hr W
  obtain ⟨W0, hW0⟩ : ∃ W0, W0 = w.alloc (.cells #[.int .i64 r.kind, .int .i64 r.tx, .int .u16 r.mask, .int .u8 r.k0, .int .u8 r.k1, .int .u8 r.k2, .int .u8 r.k3, .bool r.oT, .int .i64 r.oN, .bool r.nT, .int .i64 r.nN] 63) := ⟨_, rfl⟩
  have hR0 : RecAt W0 w.heap.size r := by rw [hW0]; exact recAt_new w r
  have hs0 : W0.heap.size = w.heap.size + 1 := by rw [hW0]; simp
  have hw0 : Below w.heap.size w W0 := by rw [hW0]; exact (Below.refl _ _).alloc (Nat.le_refl _) _
  have kS : ∀ W, Below (w.heap.size + 1) W0 W → (W.cell? ⟨w.heap.size, 0, none⟩ = some (.int .i64 r.kind) ∧ W.cell? ⟨w.heap.size, 1, none⟩ = some (.int .i64 r.tx) ∧ Below (w.heap.size + 1) W0 W) := fun W hb => have h := hR0.below hb (by omega); ⟨h.c0, h.c1, hb⟩
  have hsz : ∀ W, Below (w.heap.size + 1) W0 W → w.heap.size + 1 ≤ W.heap.size := fun W hb => by have := hb.size; omega
  have kA : ∀ W o, Below (w.heap.size + 1) W0 W → Below (w.heap.size + 1) W0 (W.alloc o) := fun W o hb => hb.alloc (hsz W hb) o
  have kT : ∀ W W', Below (w.heap.size + 1) W0 W → Below W.heap.size W W' → Below (w.heap.size + 1) W0 W' := fun W W' hb hk => hb.trans (hk.mono (hsz W hb))
  have kSD : ∀ W, (W.cell? ⟨w.heap.size, 0, none⟩ = some (.int .i64 r.kind) ∧ W.cell? ⟨w.heap.size, 1, none⟩ = some (.int .i64 r.tx) ∧ Below (w.heap.size + 1) W0 W) → (W.drew.cell? ⟨w.heap.size, 0, none⟩ = some (.int .i64 r.kind) ∧ W.drew.cell? ⟨w.heap.size, 1, none⟩ = some (.int .i64 r.tx) ∧ Below (w.heap.size + 1) W0 W.drew) := fun W h => kS _ h.2.2.drew
  have kSA : ∀ W o, (W.cell? ⟨w.heap.size, 0, none⟩ = some (.int .i64 r.kind) ∧ W.cell? ⟨w.heap.size, 1, none⟩ = some (.int .i64 r.tx) ∧ Below (w.heap.size + 1) W0 W) → ((W.alloc o).cell? ⟨w.heap.size, 0, none⟩ = some (.int .i64 r.kind) ∧ (W.alloc o).cell? ⟨w.heap.size, 1, none⟩ = some (.int .i64 r.tx) ∧ Below (w.heap.size + 1) W0 (W.alloc o)) := fun W o h => kS _ (kA _ o h.2.2)
  have hp := head_pack r.kind r.tx hbd.1 hbd.2.1 hbd.2.2.1 hbd.2.2.2
  have F1 : ∀ W, (W.cell? ⟨w.heap.size, 0, none⟩ = some (.int .i64 r.kind) ∧ W.cell? ⟨w.heap.size, 1, none⟩ = some (.int .i64 r.tx) ∧ Below (w.heap.size + 1) W0 W) → Calls Tryz.prog 85 #[] W fun e w' => ∃ A, e = .returned (.slice A 2 2) ∧ Ints .i64 w'.heap.size w' A [3, 21] ∧ Below W.heap.size W w' ∧ (w'.cell? ⟨w.heap.size, 0, none⟩ = some (.int .i64 r.kind) ∧ w'.cell? ⟨w.heap.size, 1, none⟩ = some (.int .i64 r.tx) ∧ Below (w.heap.size + 1) W0 w') := fun W h => by
    refine (headWidths_any W).mono ?_
    rintro e w' ⟨rfl, i, k⟩
    exact ⟨_, rfl, i, k, kS _ (kT _ _ h.2.2 k)⟩
  have F2 : ∀ A A' c c' W, Ints .i64 W.heap.size W A [3, 21] → Ints .i64 W.heap.size W A' [r.kind - 1, r.tx] → Calls Tryz.prog 84 #[.int .i64 3, .slice A 2 c, .slice A' 2 c'] W (GivesB (bytesL (headN r) 3) W) := fun A A' c c' W =>
    packed_any 3 (headN r) [3, 21] [r.kind - 1, r.tx] A A' c c' 2 2 (by omega) rfl rfl hp.2.2 hp.1 hp.2.1 (by omega) (by simp; omega) W
  have he : encL r = bytesL (headN r) 3 ++ [r.k0, r.k1, r.k2, r.k3] ++ valsL r.oT r.oN r.nT r.nN := by
    simp at *
    simp [encL, tailL, valsL, flagsN, *]
  unfold EncSays
  rw [he]
  have F3 := fun W => valsBytes_any r.oT r.oN r.nT r.nN ok.oN ok.nN W
  have hvl : (valsL r.oT r.oN r.nT r.nN).length ≤ 17 := by
    have := valL_le r.oT r.oN
    have := valL_le r.nT r.nN
    simp [valsL]; omega
  obtain ⟨l5, hl5⟩ : ∃ l5, (valsL r.oT r.oN r.nT r.nN).length = l5 := ⟨_, rfl⟩
  rw [hl5] at hvl
  have HL5 := Lib.hid hl5
  clear hl5
  generalize valsL r.oT r.oN r.nT r.nN = vl at *
  have hhl : (bytesL (headN r) 3).length = 3 := bytesL_length _ _
  generalize bytesL (headN r) 3 = hd at *
  have hid := Lib.hid hhl
  clear hhl he
  obtain ⟨hbd1, hbd2, hbd3, hbd4⟩ := hbd
  clear hp hr ok hlt
  rw [recV_eq]
  go_enter Tryz.func70, Tryz.ntmps70
  go_wp2_with fail
  refine (c0 _).mono ?_
  rintro e w1 ⟨rfl, b1⟩
  rw [← hW0] at b1
  have s1 := kS _ (b1.mono (by omega))
  clear hW0 c0
  go_wp2_with fail
  have hwr : IntKind.i64.wrap (r.kind - 1) = r.kind - 1 := IntWalk.i64_in _ (by omega)
  go_region_held3 (fun w' => (w'.cell? ⟨w.heap.size, 0, none⟩ = some (.int .i64 r.kind) ∧ w'.cell? ⟨w.heap.size, 1, none⟩ = some (.int .i64 r.tx) ∧ Below (w.heap.size + 1) W0 w')) (first | assumption | exact kSD _ (by assumption) | exact kSA _ _ (by assumption)) (first
    | (go_at_call 85; (with_reducible refine (F1 _ (by first | assumption | exact kSD _ (by assumption) | exact kSA _ _ (by assumption))).mono ?_); rintro e w3 ⟨A3, rfl, i3, k3, s3⟩)
    | (go_at_call 84; (with_reducible refine (F2 _ _ _ _ _ (i3.more' _) (ints_two .i64 w3 _ _ 3)).mono ?_); rintro e w4 ⟨v4, rfl, o4, k4⟩; have hX := kA w3 (.cells #[.int .i64 (r.kind - 1), .int .i64 r.tx] 3) s3.2.2; have s4 := kS _ (kT _ _ hX k4))
    | (go_at_call 84; (with_reducible refine (F2 _ _ _ _ _ i3 (((ints_two_drew .i64 _ _ _ 3).below k3 (Nat.le_refl _)).more k3.size)).mono ?_); rintro e w4 ⟨v4, rfl, o4, k4⟩; have hX := s3.2.2; have s4 := kS _ (kT _ _ hX k4)))
  all_goals
    clear F1 F2 hwr
    obtain ⟨X, o4, k4, hX⟩ : ∃ X : World, Owns X.heap.size w4 v4 hd ∧ Below X.heap.size X w4 ∧ Below (w.heap.size + 1) W0 X := ⟨_, o4, k4, hX⟩
    have RX := hR0.below hX (by omega)
    have hXs := hsz _ hX
    have hXw : Below w.heap.size w X := hw0.trans (hX.mono (by omega))
    clear s1 s3 s4 kSD kSA kA kT kS hsz i3 k3 b1 hR0 hX hw0
    have RW := RX.below k4 (by omega)
    have ck := RW.c0
    have gk := RW.key
    clear RW
    go_wp2_with (at_builtin; refine wpList_appendB rfl _ _ rfl X.heap.size v4 hd rfl o4 (some ⟨w.heap.size, 3, none⟩) [r.k0, r.k1, r.k2, r.k3] 4 4 rfl rfl gk (by rw [hid.out]; simp) k4.size X k4 ?_; intro v5 w5 o5 k5; have RV := RX.below k5 (by omega); have q7 := RV.c7; have q8 := RV.c8; have q9 := RV.c9; have q10 := RV.c10)
    refine (F3 _).mono ?_
    rintro e w6 ⟨v6, rfl, o6, k6⟩
    obtain ⟨A6, c6, rfl, g6⟩ := o6.good
    rw [HL5.out]
    have o5' := o5.below k6
    have k5' := below_more k5 k6 (Nat.le_refl _)
    clear F3 q7 q8 q9 q10 RV
    go_wp2_with (at_builtin; refine wpList_appendB rfl _ _ rfl X.heap.size v5 (hd ++ [r.k0, r.k1, r.k2, r.k3]) rfl o5' A6 vl l5 c6 rfl HL5.out g6 (by rw [List.length_append, hid.out, HL5.out]; simp; omega) k5'.size X k5' ?_; intro v7 w7 o7 k7)
    go_ret2
    exact ⟨v7, rfl, o7.base hXw.size, below_more hXw k7 (Nat.le_refl _)⟩
set_option maxRecDepth 100000 in
set_option maxHeartbeats 2000000 in
theorem enc_7 (r : RecD) (hr : rightB r = true) (ok : okR r) (h2 : (r.kind == 2) = false) (h8 : (r.kind == 8) = false) (h1 : (r.kind == 1) = false) (h7 : (r.kind == 7) = true) (w : World) : Calls Tryz.prog 70 #[recV r] w (EncSays r w) := by
  have hbd := right_bd r hr
  have hlt := headN_lt r hr
  have c0 : ∀ W, Calls Tryz.prog 83 #[.agg #[.int .i64 r.kind, .int .i64 r.tx, .int .u16 r.mask, .int .u8 r.k0, .int .u8 r.k1, .int .u8 r.k2, .int .u8 r.k3, .bool r.oT, .int .i64 r.oN, .bool r.nT, .int .i64 r.nN]] W fun e w' => e = .returned (.bool true) ∧ Below W.heap.size W w' := fun W => right_any r true hr W
  obtain ⟨W0, hW0⟩ : ∃ W0, W0 = w.alloc (.cells #[.int .i64 r.kind, .int .i64 r.tx, .int .u16 r.mask, .int .u8 r.k0, .int .u8 r.k1, .int .u8 r.k2, .int .u8 r.k3, .bool r.oT, .int .i64 r.oN, .bool r.nT, .int .i64 r.nN] 63) := ⟨_, rfl⟩
  have hR0 : RecAt W0 w.heap.size r := by rw [hW0]; exact recAt_new w r
  have hs0 : W0.heap.size = w.heap.size + 1 := by rw [hW0]; simp
  have hw0 : Below w.heap.size w W0 := by rw [hW0]; exact (Below.refl _ _).alloc (Nat.le_refl _) _
  have kS : ∀ W, Below (w.heap.size + 1) W0 W → (W.cell? ⟨w.heap.size, 0, none⟩ = some (.int .i64 r.kind) ∧ W.cell? ⟨w.heap.size, 1, none⟩ = some (.int .i64 r.tx) ∧ Below (w.heap.size + 1) W0 W) := fun W hb => have h := hR0.below hb (by omega); ⟨h.c0, h.c1, hb⟩
  have hsz : ∀ W, Below (w.heap.size + 1) W0 W → w.heap.size + 1 ≤ W.heap.size := fun W hb => by have := hb.size; omega
  have kA : ∀ W o, Below (w.heap.size + 1) W0 W → Below (w.heap.size + 1) W0 (W.alloc o) := fun W o hb => hb.alloc (hsz W hb) o
  have kT : ∀ W W', Below (w.heap.size + 1) W0 W → Below W.heap.size W W' → Below (w.heap.size + 1) W0 W' := fun W W' hb hk => hb.trans (hk.mono (hsz W hb))
  have kSD : ∀ W, (W.cell? ⟨w.heap.size, 0, none⟩ = some (.int .i64 r.kind) ∧ W.cell? ⟨w.heap.size, 1, none⟩ = some (.int .i64 r.tx) ∧ Below (w.heap.size + 1) W0 W) → (W.drew.cell? ⟨w.heap.size, 0, none⟩ = some (.int .i64 r.kind) ∧ W.drew.cell? ⟨w.heap.size, 1, none⟩ = some (.int .i64 r.tx) ∧ Below (w.heap.size + 1) W0 W.drew) := fun W h => kS _ h.2.2.drew
  have kSA : ∀ W o, (W.cell? ⟨w.heap.size, 0, none⟩ = some (.int .i64 r.kind) ∧ W.cell? ⟨w.heap.size, 1, none⟩ = some (.int .i64 r.tx) ∧ Below (w.heap.size + 1) W0 W) → ((W.alloc o).cell? ⟨w.heap.size, 0, none⟩ = some (.int .i64 r.kind) ∧ (W.alloc o).cell? ⟨w.heap.size, 1, none⟩ = some (.int .i64 r.tx) ∧ Below (w.heap.size + 1) W0 (W.alloc o)) := fun W o h => kS _ (kA _ o h.2.2)
  have hp := head_pack r.kind r.tx hbd.1 hbd.2.1 hbd.2.2.1 hbd.2.2.2
  have F1 : ∀ W, (W.cell? ⟨w.heap.size, 0, none⟩ = some (.int .i64 r.kind) ∧ W.cell? ⟨w.heap.size, 1, none⟩ = some (.int .i64 r.tx) ∧ Below (w.heap.size + 1) W0 W) → Calls Tryz.prog 85 #[] W fun e w' => ∃ A, e = .returned (.slice A 2 2) ∧ Ints .i64 w'.heap.size w' A [3, 21] ∧ Below W.heap.size W w' ∧ (w'.cell? ⟨w.heap.size, 0, none⟩ = some (.int .i64 r.kind) ∧ w'.cell? ⟨w.heap.size, 1, none⟩ = some (.int .i64 r.tx) ∧ Below (w.heap.size + 1) W0 w') := fun W h => by
    refine (headWidths_any W).mono ?_
    rintro e w' ⟨rfl, i, k⟩
    exact ⟨_, rfl, i, k, kS _ (kT _ _ h.2.2 k)⟩
  have F2 : ∀ A A' c c' W, Ints .i64 W.heap.size W A [3, 21] → Ints .i64 W.heap.size W A' [r.kind - 1, r.tx] → Calls Tryz.prog 84 #[.int .i64 3, .slice A 2 c, .slice A' 2 c'] W (GivesB (bytesL (headN r) 3) W) := fun A A' c c' W =>
    packed_any 3 (headN r) [3, 21] [r.kind - 1, r.tx] A A' c c' 2 2 (by omega) rfl rfl hp.2.2 hp.1 hp.2.1 (by omega) (by simp; omega) W
  have he : encL r = bytesL (headN r) 3 ++ [r.k0, r.k1, r.k2, r.k3] ++ valsL r.oT r.oN r.nT r.nN := by
    simp at *
    simp [encL, tailL, valsL, flagsN, *]
  unfold EncSays
  rw [he]
  have F3 := fun W => valsBytes_any r.oT r.oN r.nT r.nN ok.oN ok.nN W
  have hvl : (valsL r.oT r.oN r.nT r.nN).length ≤ 17 := by
    have := valL_le r.oT r.oN
    have := valL_le r.nT r.nN
    simp [valsL]; omega
  obtain ⟨l5, hl5⟩ : ∃ l5, (valsL r.oT r.oN r.nT r.nN).length = l5 := ⟨_, rfl⟩
  rw [hl5] at hvl
  have HL5 := Lib.hid hl5
  clear hl5
  generalize valsL r.oT r.oN r.nT r.nN = vl at *
  have hhl : (bytesL (headN r) 3).length = 3 := bytesL_length _ _
  generalize bytesL (headN r) 3 = hd at *
  have hid := Lib.hid hhl
  clear hhl he
  obtain ⟨hbd1, hbd2, hbd3, hbd4⟩ := hbd
  clear hp hr ok hlt
  rw [recV_eq]
  go_enter Tryz.func70, Tryz.ntmps70
  go_wp2_with fail
  refine (c0 _).mono ?_
  rintro e w1 ⟨rfl, b1⟩
  rw [← hW0] at b1
  have s1 := kS _ (b1.mono (by omega))
  clear hW0 c0
  go_wp2_with fail
  have hwr : IntKind.i64.wrap (r.kind - 1) = r.kind - 1 := IntWalk.i64_in _ (by omega)
  go_region_held3 (fun w' => (w'.cell? ⟨w.heap.size, 0, none⟩ = some (.int .i64 r.kind) ∧ w'.cell? ⟨w.heap.size, 1, none⟩ = some (.int .i64 r.tx) ∧ Below (w.heap.size + 1) W0 w')) (first | assumption | exact kSD _ (by assumption) | exact kSA _ _ (by assumption)) (first
    | (go_at_call 85; (with_reducible refine (F1 _ (by first | assumption | exact kSD _ (by assumption) | exact kSA _ _ (by assumption))).mono ?_); rintro e w3 ⟨A3, rfl, i3, k3, s3⟩)
    | (go_at_call 84; (with_reducible refine (F2 _ _ _ _ _ (i3.more' _) (ints_two .i64 w3 _ _ 3)).mono ?_); rintro e w4 ⟨v4, rfl, o4, k4⟩; have hX := kA w3 (.cells #[.int .i64 (r.kind - 1), .int .i64 r.tx] 3) s3.2.2; have s4 := kS _ (kT _ _ hX k4))
    | (go_at_call 84; (with_reducible refine (F2 _ _ _ _ _ i3 (((ints_two_drew .i64 _ _ _ 3).below k3 (Nat.le_refl _)).more k3.size)).mono ?_); rintro e w4 ⟨v4, rfl, o4, k4⟩; have hX := s3.2.2; have s4 := kS _ (kT _ _ hX k4)))
  all_goals
    clear F1 F2 hwr
    obtain ⟨X, o4, k4, hX⟩ : ∃ X : World, Owns X.heap.size w4 v4 hd ∧ Below X.heap.size X w4 ∧ Below (w.heap.size + 1) W0 X := ⟨_, o4, k4, hX⟩
    have RX := hR0.below hX (by omega)
    have hXs := hsz _ hX
    have hXw : Below w.heap.size w X := hw0.trans (hX.mono (by omega))
    clear s1 s3 s4 kSD kSA kA kT kS hsz i3 k3 b1 hR0 hX hw0
    have RW := RX.below k4 (by omega)
    have ck := RW.c0
    have gk := RW.key
    clear RW
    go_wp2_with (at_builtin; refine wpList_appendB rfl _ _ rfl X.heap.size v4 hd rfl o4 (some ⟨w.heap.size, 3, none⟩) [r.k0, r.k1, r.k2, r.k3] 4 4 rfl rfl gk (by rw [hid.out]; simp) k4.size X k4 ?_; intro v5 w5 o5 k5; have RV := RX.below k5 (by omega); have q7 := RV.c7; have q8 := RV.c8; have q9 := RV.c9; have q10 := RV.c10)
    refine (F3 _).mono ?_
    rintro e w6 ⟨v6, rfl, o6, k6⟩
    obtain ⟨A6, c6, rfl, g6⟩ := o6.good
    rw [HL5.out]
    have o5' := o5.below k6
    have k5' := below_more k5 k6 (Nat.le_refl _)
    clear F3 q7 q8 q9 q10 RV
    go_wp2_with (at_builtin; refine wpList_appendB rfl _ _ rfl X.heap.size v5 (hd ++ [r.k0, r.k1, r.k2, r.k3]) rfl o5' A6 vl l5 c6 rfl HL5.out g6 (by rw [List.length_append, hid.out, HL5.out]; simp; omega) k5'.size X k5' ?_; intro v7 w7 o7 k7)
    go_ret2
    exact ⟨v7, rfl, o7.base hXw.size, below_more hXw k7 (Nat.le_refl _)⟩
theorem enc_yes (r : RecD) (hr : rightB r = true) (ok : okR r) (w : World) : Calls Tryz.prog 70 #[recV r] w (EncSays r w) := by
  cases h2 : (r.kind == 2)
  · cases h8 : (r.kind == 8)
    · cases h1 : (r.kind == 1)
      · cases h7 : (r.kind == 7)
        · exact enc_plain r hr ok h2 h8 h1 h7 w
        · exact enc_7 r hr ok h2 h8 h1 h7 w
      · exact enc_1 r hr ok h2 h8 h1 w
    · exact enc_8 r hr ok h2 h8 w
  · exact enc_2 r hr ok h2 w
set_option maxRecDepth 100000 in
set_option maxHeartbeats 1000000 in
theorem enc_no (r : RecD) (hr : rightB r = false) (w : World) : Calls Tryz.prog 70 #[recV r] w fun e w' => e = .returned (.tuple #[.slice none 0 0, .bool false]) ∧ Below w.heap.size w w' := by
  have c0 : ∀ W, Calls Tryz.prog 83 #[.agg #[.int .i64 r.kind, .int .i64 r.tx, .int .u16 r.mask, .int .u8 r.k0, .int .u8 r.k1, .int .u8 r.k2, .int .u8 r.k3, .bool r.oT, .int .i64 r.oN, .bool r.nT, .int .i64 r.nN]] W fun e w' => e = .returned (.bool false) ∧ Below W.heap.size W w' := fun W => right_any r false hr W
  rw [recV_eq]
  go_enter Tryz.func70, Tryz.ntmps70
  go_wp2_with fail
  refine (c0 _).mono ?_
  rintro e w1 ⟨rfl, b1⟩
  go_wp2
  go_ret2
  exact ⟨rfl, ((Below.refl _ _).alloc (Nat.le_refl _) _).trans (b1.mono (by simp))⟩
end Go.Proofs.YtdmkkfpbgpijjaaGreat
