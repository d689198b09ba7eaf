/- rec.valsBytes: two values' flags and bytes. -/
import Derived.Test.YtlohogcddelekaaEd
namespace Go.Proofs.Ytlohogcddelekaa
open Go.RowKit Go.Deep

theorem flags_pack (a b c d : Nat) (ha : a ≤ 1) (hb : b ≤ 1) (hc : c ≤ 7) (hd : d ≤ 7) :
    packOK [1, 1, 3, 3] [(a : Int), (b : Int), (c : Int), (d : Int)] = true ∧ packN [1, 1, 3, 3] [(a : Int), (b : Int), (c : Int), (d : Int)] = a + 2 * b + 4 * c + 32 * d ∧ i64s [(a : Int), (b : Int), (c : Int), (d : Int)] := by
  refine ⟨?_, ?_, ?_⟩
  · simp [packOK, okW, okVs, okV, sumI]; omega
  · simp [packN]; omega
  · intro v hv
    simp at hv
    omega
theorem head_pack (k t : Int) (h1 : 1 ≤ k) (h2 : k ≤ 8) (h3 : 0 ≤ t) (h4 : t ≤ 1048576) :
    packOK [3, 21] [k - 1, t] = true ∧ packN [3, 21] [k - 1, t] = (k - 1 + 8 * t).toNat ∧ i64s [k - 1, t] := by
  refine ⟨?_, ?_, ?_⟩
  · simp [packOK, okW, okVs, okV, sumI]; omega
  · simp [packN]; omega
  · intro v hv
    simp at hv
    omega
theorem Ints.more' {k : IntKind} {w : World} {A : Option Addr} {zs : List Int} (h : Ints k w.heap.size w A zs) (o : Obj) : Ints k (w.alloc o).heap.size (w.alloc o) A zs := (h.below ((Below.refl _ _).alloc (Nat.le_refl _) o) (Nat.le_refl _)).more (by simp)
theorem one_byte (u : Nat) (h : u < 256) : bytesL u 1 = [(u : Int)] := by
  simp [bytesL, byteAt]; omega
def valsL (oT : Bool) (oN : Int) (nT : Bool) (nN : Int) : List Int := ((bitN oT + 2 * bitN nT + 4 * less oT oN + 32 * less nT nN : Nat) : Int) :: (valL oT oN ++ valL nT nN)
theorem less_of (t : Bool) (n : Int) : (valL t n).length - 1 = less t n := by
  rw [valL_length]; unfold less; split <;> rfl

set_option maxRecDepth 100000 in
set_option maxHeartbeats 2000000 in
theorem valsBytes_any (oT : Bool) (oN : Int) (nT : Bool) (nN : Int) (ho : isI64 oN) (hn : isI64 nN) (w : World) :
    Calls Try.prog 28 #[.agg #[.bool oT, .int .i64 oN], .agg #[.bool nT, .int .i64 nN]] w (GivesB (valsL oT oN nT nN) w) := by
  obtain ⟨W0, hW0⟩ : ∃ W0, W0 = (w.alloc (.cells #[.bool oT, .int .i64 oN] 30)).alloc (.cells #[.bool nT, .int .i64 nN] 30) := ⟨_, rfl⟩
  have hs0 : W0.heap.size = w.heap.size + 2 := by rw [hW0]; simp
  have a0 : W0.cell? ⟨w.heap.size, 0, none⟩ = some (.bool oT) := by rw [hW0]; simp [go_sem]
  have a1 : W0.cell? ⟨w.heap.size, 1, none⟩ = some (.int .i64 oN) := by rw [hW0]; simp [go_sem]
  have b0 : W0.cell? ⟨w.heap.size + 1, 0, none⟩ = some (.bool nT) := by rw [hW0]; simp [go_sem]
  have b1 : W0.cell? ⟨w.heap.size + 1, 1, none⟩ = some (.int .i64 nN) := by rw [hW0]; simp [go_sem]
  have kS : ∀ W, Below (w.heap.size + 2) W0 W → (W.cell? ⟨w.heap.size, 0, none⟩ = some (.bool oT) ∧ W.cell? ⟨w.heap.size, 1, none⟩ = some (.int .i64 oN) ∧ W.cell? ⟨w.heap.size + 1, 0, none⟩ = some (.bool nT) ∧ W.cell? ⟨w.heap.size + 1, 1, none⟩ = some (.int .i64 nN) ∧ Below (w.heap.size + 2) W0 W) := fun W hb =>
    ⟨(hb.cell (p := ⟨w.heap.size, 0, none⟩) (by show w.heap.size < _; omega)).trans a0, (hb.cell (p := ⟨w.heap.size, 1, none⟩) (by show w.heap.size < _; omega)).trans a1, (hb.cell (p := ⟨w.heap.size + 1, 0, none⟩) (by show w.heap.size + 1 < _; omega)).trans b0, (hb.cell (p := ⟨w.heap.size + 1, 1, none⟩) (by show w.heap.size + 1 < _; omega)).trans b1, hb⟩
  have hsz : ∀ W, Below (w.heap.size + 2) W0 W → w.heap.size + 2 ≤ W.heap.size := fun W hb => by have := hb.size; omega
  have hw0 : Below w.heap.size w W0 := by rw [hW0]; exact ((Below.refl _ _).alloc (Nat.le_refl _) _).alloc (by simp) _
  have kA : ∀ W o, Below (w.heap.size + 2) W0 W → Below (w.heap.size + 2) W0 (W.alloc o) := fun W o hb => hb.alloc (hsz W hb) o
  have kT : ∀ W W', Below (w.heap.size + 2) W0 W → Below W.heap.size W W' → Below (w.heap.size + 2) W0 W' := fun W W' hb hk => hb.trans (hk.mono (hsz W hb))
  obtain ⟨l1, hl1⟩ : ∃ l1, (valL oT oN).length = l1 := ⟨_, rfl⟩
  obtain ⟨l2, hl2⟩ : ∃ l2, (valL nT nN).length = l2 := ⟨_, rfl⟩
  have m1 : l1 ≤ 8 := by rw [← hl1]; exact valL_le _ _
  have m2 : l2 ≤ 8 := by rw [← hl2]; exact valL_le _ _
  have hp := flags_pack (bitN oT) (bitN nT) (less oT oN) (less nT nN) (bitN_le _) (bitN_le _) (less_le _ _) (less_le _ _)
  have q1 : l1 - 1 = less oT oN := by rw [← hl1]; exact less_of _ _
  have q2 : l2 - 1 = less nT nN := by rw [← hl2]; exact less_of _ _
  have p1 := bitN_le oT
  have p2 := bitN_le nT
  have p3 := less_le oT oN
  have p4 := less_le nT nN
  unfold valsL
  have F1 : ∀ W, (W.cell? ⟨w.heap.size, 0, none⟩ = some (.bool oT) ∧ W.cell? ⟨w.heap.size, 1, none⟩ = some (.int .i64 oN) ∧ W.cell? ⟨w.heap.size + 1, 0, none⟩ = some (.bool nT) ∧ W.cell? ⟨w.heap.size + 1, 1, none⟩ = some (.int .i64 nN) ∧ Below (w.heap.size + 2) W0 W) → Calls Try.prog 40 #[.agg #[.bool oT, .int .i64 oN]] W fun e w' => ∃ A c, e = .returned (.slice A l1 c) ∧ Good A c (valL oT oN) w' ∧ Below W.heap.size W w' ∧ (w'.cell? ⟨w.heap.size, 0, none⟩ = some (.bool oT) ∧ w'.cell? ⟨w.heap.size, 1, none⟩ = some (.int .i64 oN) ∧ w'.cell? ⟨w.heap.size + 1, 0, none⟩ = some (.bool nT) ∧ w'.cell? ⟨w.heap.size + 1, 1, none⟩ = some (.int .i64 nN) ∧ Below (w.heap.size + 2) W0 w') := fun W h => by
    refine (valBytes_any oT oN ho W).mono ?_
    rintro e w' ⟨v, rfl, o, k⟩
    obtain ⟨A, c, rfl, g⟩ := o.good
    exact ⟨A, c, by rw [hl1], g, k, kS _ (kT _ _ h.2.2.2.2 k)⟩
  have F2 : ∀ W, (W.cell? ⟨w.heap.size, 0, none⟩ = some (.bool oT) ∧ W.cell? ⟨w.heap.size, 1, none⟩ = some (.int .i64 oN) ∧ W.cell? ⟨w.heap.size + 1, 0, none⟩ = some (.bool nT) ∧ W.cell? ⟨w.heap.size + 1, 1, none⟩ = some (.int .i64 nN) ∧ Below (w.heap.size + 2) W0 W) → Calls Try.prog 40 #[.agg #[.bool nT, .int .i64 nN]] W fun e w' => ∃ A c, e = .returned (.slice A l2 c) ∧ Good A c (valL nT nN) w' ∧ Below W.heap.size W w' ∧ (w'.cell? ⟨w.heap.size, 0, none⟩ = some (.bool oT) ∧ w'.cell? ⟨w.heap.size, 1, none⟩ = some (.int .i64 oN) ∧ w'.cell? ⟨w.heap.size + 1, 0, none⟩ = some (.bool nT) ∧ w'.cell? ⟨w.heap.size + 1, 1, none⟩ = some (.int .i64 nN) ∧ Below (w.heap.size + 2) W0 w') := fun W h => by
    refine (valBytes_any nT nN hn W).mono ?_
    rintro e w' ⟨v, rfl, o, k⟩
    obtain ⟨A, c, rfl, g⟩ := o.good
    exact ⟨A, c, by rw [hl2], g, k, kS _ (kT _ _ h.2.2.2.2 k)⟩
  have F3 : ∀ W, (W.cell? ⟨w.heap.size, 0, none⟩ = some (.bool oT) ∧ W.cell? ⟨w.heap.size, 1, none⟩ = some (.int .i64 oN) ∧ W.cell? ⟨w.heap.size + 1, 0, none⟩ = some (.bool nT) ∧ W.cell? ⟨w.heap.size + 1, 1, none⟩ = some (.int .i64 nN) ∧ Below (w.heap.size + 2) W0 W) → Calls Try.prog 41 #[] W fun e w' => ∃ A, e = .returned (.slice A 4 4) ∧ Ints .i64 w'.heap.size w' A [1, 1, 3, 3] ∧ Below W.heap.size W w' ∧ (w'.cell? ⟨w.heap.size, 0, none⟩ = some (.bool oT) ∧ w'.cell? ⟨w.heap.size, 1, none⟩ = some (.int .i64 oN) ∧ w'.cell? ⟨w.heap.size + 1, 0, none⟩ = some (.bool nT) ∧ w'.cell? ⟨w.heap.size + 1, 1, none⟩ = some (.int .i64 nN) ∧ Below (w.heap.size + 2) W0 w') := fun W h => by
    refine (flagWidths_any W).mono ?_
    rintro e w' ⟨rfl, i, k⟩
    exact ⟨_, rfl, i, k, kS _ (kT _ _ h.2.2.2.2 k)⟩
  have F4 := fun W => bit_any oT W
  have F5 := fun W => bit_any nT W
  have F6 := fun A c W => lessOne_any A l1 c (less oT oN) m1 q1 W
  have F7 := fun A c W => lessOne_any A l2 c (less nT nN) m2 q2 W
  generalize bitN oT = x1 at *
  generalize bitN nT = x2 at *
  generalize less oT oN = x3 at *
  generalize less nT nN = x4 at *
  have F8 : ∀ A A' c c' W, Ints .i64 W.heap.size W A [1, 1, 3, 3] → Ints .i64 W.heap.size W A' [(x1 : Int), (x2 : Int), (x3 : Int), (x4 : Int)] → Calls Try.prog 25 #[.int .i64 1, .slice A 4 c, .slice A' 4 c'] W (GivesB (bytesL (x1 + 2 * x2 + 4 * x3 + 32 * x4) 1) W) := fun A A' c c' W => packed_any 1 (x1 + 2 * x2 + 4 * x3 + 32 * x4) [1, 1, 3, 3] [(x1 : Int), (x2 : Int), (x3 : Int), (x4 : Int)] A A' c c' 4 4 (by omega) rfl rfl hp.2.2 hp.1 hp.2.1 (by omega) (by simp; omega) W
  rw [one_byte _ (by omega)] at F8
  generalize x1 + 2 * x2 + 4 * x3 + 32 * x4 = fl at *
  clear hp q1 q2 p1 p2 p3 p4
  go_enter Try.func28, Try.ntmps28
  go_wp2_with fail
  rw [← hW0]
  clear hW0
  have s0 := kS W0 (Below.refl _ _)
  have kSD : ∀ W, (W.cell? ⟨w.heap.size, 0, none⟩ = some (.bool oT) ∧ W.cell? ⟨w.heap.size, 1, none⟩ = some (.int .i64 oN) ∧ W.cell? ⟨w.heap.size + 1, 0, none⟩ = some (.bool nT) ∧ W.cell? ⟨w.heap.size + 1, 1, none⟩ = some (.int .i64 nN) ∧ Below (w.heap.size + 2) W0 W) → (W.drew.cell? ⟨w.heap.size, 0, none⟩ = some (.bool oT) ∧ W.drew.cell? ⟨w.heap.size, 1, none⟩ = some (.int .i64 oN) ∧ W.drew.cell? ⟨w.heap.size + 1, 0, none⟩ = some (.bool nT) ∧ W.drew.cell? ⟨w.heap.size + 1, 1, none⟩ = some (.int .i64 nN) ∧ Below (w.heap.size + 2) W0 W.drew) := fun W h => kS _ h.2.2.2.2.drew
  have kSA : ∀ W o, (W.cell? ⟨w.heap.size, 0, none⟩ = some (.bool oT) ∧ W.cell? ⟨w.heap.size, 1, none⟩ = some (.int .i64 oN) ∧ W.cell? ⟨w.heap.size + 1, 0, none⟩ = some (.bool nT) ∧ W.cell? ⟨w.heap.size + 1, 1, none⟩ = some (.int .i64 nN) ∧ Below (w.heap.size + 2) W0 W) → ((W.alloc o).cell? ⟨w.heap.size, 0, none⟩ = some (.bool oT) ∧ (W.alloc o).cell? ⟨w.heap.size, 1, none⟩ = some (.int .i64 oN) ∧ (W.alloc o).cell? ⟨w.heap.size + 1, 0, none⟩ = some (.bool nT) ∧ (W.alloc o).cell? ⟨w.heap.size + 1, 1, none⟩ = some (.int .i64 nN) ∧ Below (w.heap.size + 2) W0 (W.alloc o)) := fun W o h => kS _ (kA _ o h.2.2.2.2)
  go_region_held3 (fun w' => (w'.cell? ⟨w.heap.size, 0, none⟩ = some (.bool oT) ∧ w'.cell? ⟨w.heap.size, 1, none⟩ = some (.int .i64 oN) ∧ w'.cell? ⟨w.heap.size + 1, 0, none⟩ = some (.bool nT) ∧ w'.cell? ⟨w.heap.size + 1, 1, none⟩ = some (.int .i64 nN) ∧ Below (w.heap.size + 2) W0 w')) (first | assumption | exact kSD _ (by assumption) | exact kSA _ _ (by assumption)) (first
    | (go_at_call 40; with_reducible refine (F1 _ (by assumption)).mono ?_; rintro e w1 ⟨A1, c1, rfl, g1, k1, s1⟩)
    | (go_at_call 40; with_reducible refine (F2 _ (by assumption)).mono ?_; rintro e w2 ⟨A2, c2, rfl, g2, k2, s2⟩))
  clear F1 F2
  go_wp2_with fail
  go_region_held3 (fun w' => (w'.cell? ⟨w.heap.size, 0, none⟩ = some (.bool oT) ∧ w'.cell? ⟨w.heap.size, 1, none⟩ = some (.int .i64 oN) ∧ w'.cell? ⟨w.heap.size + 1, 0, none⟩ = some (.bool nT) ∧ w'.cell? ⟨w.heap.size + 1, 1, none⟩ = some (.int .i64 nN) ∧ Below (w.heap.size + 2) W0 w')) (first | assumption | exact kSD _ (by assumption) | exact kSA _ _ (by assumption)) (first
    | (go_at_call 41; with_reducible refine (F3 _ (by assumption)).mono ?_; rintro e w3 ⟨A3, rfl, i3, k3, s3⟩)
    | (go_at_call 42; with_reducible refine (F4 _).mono ?_; rintro e w' ⟨rfl, rfl⟩)
    | (go_at_call 42; with_reducible refine (F5 _).mono ?_; rintro e w' ⟨rfl, rfl⟩)
    | (go_at_call 43; with_reducible refine (F6 _ _ _).mono ?_; rintro e w' ⟨rfl, rfl⟩)
    | (go_at_call 43; with_reducible refine (F7 _ _ _).mono ?_; rintro e w' ⟨rfl, rfl⟩)
    | (go_at_call 25; refine (F8 _ _ _ _ _ (i3.more' _) (ints_lit .i64 w3 _ 3 _ rfl)).mono ?_; rintro e w4 ⟨v4, rfl, o4, k4⟩; have s4 := kS _ (kT _ _ (kA _ _ s3.2.2.2.2) k4)))
  clear F3 F4 F5 F6 F7 F8
  have z1 : Below w2.heap.size w2 w3 := ((Below.refl _ w2).drew).trans k3
  have G1 := ((g1.below k2).below z1).alloc (.cells (List.map (Value.int IntKind.i64) [(x1 : Int), (x2 : Int), (x3 : Int), (x4 : Int)]).toArray 3)
  have G2 := (g2.below z1).alloc (.cells (List.map (Value.int IntKind.i64) [(x1 : Int), (x2 : Int), (x3 : Int), (x4 : Int)]).toArray 3)
  have hW3 : Below w.heap.size w (w3.alloc (.cells (List.map (Value.int IntKind.i64) [(x1 : Int), (x2 : Int), (x3 : Int), (x4 : Int)]).toArray 3)) := (hw0.trans (s3.2.2.2.2.mono (by omega))).alloc (by have := hsz _ s3.2.2.2.2; omega) _
  generalize (w3.alloc (.cells (List.map (Value.int IntKind.i64) [(x1 : Int), (x2 : Int), (x3 : Int), (x4 : Int)]).toArray 3)) = W3 at *
  have G1' := G1.below k4
  clear s1 s2 s3 s4 s0 kSD kSA kA kT kS i3 k3 k2 k1 g1 g2 z1 a0 a1 b0 b1 hsz hw0 hs0
  have hll1 := Lib.hid hl1
  have hll2 := Lib.hid hl2
  clear hl1 hl2
  go_wp2_with (first
    | (at_builtin; refine wpList_appendB rfl _ _ rfl W3.heap.size v4 [(fl : Int)] rfl o4 A1 (valL oT oN) l1 c1 rfl hll1.out G1' (by rw [hll1.out]; simp; omega) k4.size W3 k4 ?_; intro v5 w5 o5 k5)
    | (at_builtin; refine wpList_appendB rfl _ _ rfl W3.heap.size v5 _ rfl o5 A2 (valL nT nN) l2 c2 rfl hll2.out (G2.below k5) (by rw [List.length_append, hll1.out, hll2.out]; simp; omega) k5.size W3 k5 ?_; intro v6 w6 o6 k6))
  go_ret
  rw [List.append_assoc] at o6
  exact ⟨v6, rfl, o6.base hW3.size, below_more hW3 k6 (Nat.le_refl _)⟩
end Go.Proofs.Ytlohogcddelekaa
