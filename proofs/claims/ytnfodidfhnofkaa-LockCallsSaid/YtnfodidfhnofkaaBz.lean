/- alive's walk. -/
import Derived.Test.YtnfodidfhnofkaaBy
namespace Go.Proofs.Ytnfodidfhnofkaa
open Go.RowKit Go.Deep Go.Maps Go.Lib

/-- A table under way, of blocks behind w0, beside a key's cell at kb. -/
structure Al (w0 w : World) (F : Nat → Prop) (tb m kb : Nat) (st : PS) (k : KeyT) : Prop where
  lock : LockAt w F tb m st
  no : ¬ F kb
  key : w.heap[kb]? = some (.cells (kv k).toArray 24 (0, 0))
  low : ∀ b, F b → w0.heap.size ≤ b
  below : Below w0.heap.size w0 w
theorem Al.klt {w0 w : World} {F : Nat → Prop} {tb m kb : Nat} {st : PS} {k : KeyT} (h : Al w0 w F tb m kb st k) : kb < w.heap.size := (Array.getElem?_eq_some_iff.1 h.key).1
theorem Al.step {w0 w w' : World} {F : Nat → Prop} {tb m m' kb : Nat} {st st' : PS} {k : KeyT} (h : Al w0 w F tb m kb st k) (h1 : LockAt w' (grow F w w') tb m' st') (h2 : Moves F w w') : Al w0 w' (grow F w w') tb m' kb st' k :=
  ⟨h1, fun e => e.elim h.no (fun e => by have := h.klt; omega), (h2.block kb h.klt h.no).trans h.key, fun b e => e.elim (h.low b) (fun e => by have := h.below.size; omega),
    ⟨h2.os.trans h.below.os, h2.tape.trans h.below.tape, h2.output.trans h.below.output, Nat.le_trans h.below.size h2.size, fun b hb => (h2.block b (Nat.lt_of_lt_of_le hb h.below.size) (fun e => by have := h.low b e; omega)).trans (h.below.block b hb)⟩⟩
theorem Al.still {w0 w w' : World} {F : Nat → Prop} {tb m kb : Nat} {st : PS} {k : KeyT} (h : Al w0 w F tb m kb st k) (hb : Below w.heap.size w w') : Al w0 w' F tb m kb st k :=
  ⟨h.lock.below hb, h.no, (hb.block kb h.klt).trans h.key, h.low, h.below.trans (hb.mono h.below.size)⟩
theorem Al.cells {w0 w : World} {F : Nat → Prop} {tb m kb : Nat} {st : PS} (h : Al w0 w F tb m kb st K1) : w.cell? ⟨kb, 0, none⟩ = some (.int .u8 1) ∧ w.cell? ⟨kb, 1, none⟩ = some (.int .u8 0) ∧ w.cell? ⟨kb, 2, none⟩ = some (.int .u8 0) ∧ w.cell? ⟨kb, 3, none⟩ = some (.int .u8 0) := by
  have hk := h.key
  refine ⟨?_, ?_, ?_, ?_⟩ <;> simp only [World.cell?, hk] <;> rfl
theorem KV_K1 : KV K1 = .agg #[.int .u8 1, .int .u8 0, .int .u8 0, .int .u8 0] := rfl
theorem okI_of {t : Int} (h : 0 ≤ t) (h2 : t ≤ 1048576) : okI t := by unfold okI; omega
theorem ints_moves {w w' : World} {F : Nat → Prop} {base : Nat} {v : Value} {l : List Int} (h : IntsAt w base v l) (hm : Moves F w w') (hno : ∀ b, v.ownBlock = some b → ¬ F b) : IntsAt w' base v l := by
  refine ⟨h.1, ?_⟩
  rcases h.2 with h0 | ⟨g, cap, cur, rfl, h1, h2, h3⟩
  · exact .inl h0
  · exact .inr ⟨g, cap, cur, rfl, h1, (hm.block g (Array.getElem?_eq_some_iff.1 h2).1 (hno g rfl)).trans h2, h3⟩
theorem ints_below {w w' : World} {base : Nat} {v : Value} {l : List Int} (h : IntsAt w base v l) (hb : Below w.heap.size w w') : IntsAt w' base v l := ints_moves (F := fun _ => False) h (moves_of_below hb) fun _ _ e => e
theorem ints_lit1 (w : World) (x : Int) : Ints .i64 (w.alloc (.cells #[.int .i64 x] 3)).heap.size (w.alloc (.cells #[.int .i64 x] 3)) (some ⟨w.heap.size, 0, none⟩) [x] := fun _ => ⟨w.heap.size, 0, rfl, by simp, fun j hj => by
  obtain rfl : j = 0 := by simp at hj; omega
  rw [World.cell?_alloc_new]; rfl⟩
theorem ints_lit2 (w : World) (x y : Int) : Ints .i64 (w.alloc (.cells #[.int .i64 x, .int .i64 y] 3)).heap.size (w.alloc (.cells #[.int .i64 x, .int .i64 y] 3)) (some ⟨w.heap.size, 0, none⟩) [x, y] := fun _ => ⟨w.heap.size, 0, rfl, by simp, fun j hj => by
  have : j = 0 ∨ j = 1 := by simp at hj; omega
  rcases this with rfl | rfl <;> (rw [World.cell?_alloc_new]; rfl)⟩
set_option maxRecDepth 100000 in
set_option maxHeartbeats 4000000 in
theorem alive_any (w : World) : Calls Try.prog 10 #[] w fun e w' => e = .returned (.bool true) ∧ Below w.heap.size w w' := by
  have hN := new_ok 5 w (by decide) (by decide)
  go_enter Try.func10, Try.ntmps10
  go_wp2_with fail
  refine hN.mono ?_
  rintro e w1 ⟨tb, rfl, hl1, hb1⟩
  have hs1 := hb1.size
  have A1 := Lib.hid (show Al w (w1.alloc (.cells #[.int .u8 1, .int .u8 0, .int .u8 0, .int .u8 0] 24)) (fun k => w.heap.size ≤ k ∧ k < w1.heap.size) tb 0 w1.heap.size (newPS 5) K1 from
    ⟨hl1.alloc _, fun e => by omega, heap_alloc_new w1 _, fun b e => e.1, (hb1.mono (Nat.le_refl _)).alloc hs1 _⟩)
  have htn : tb < w1.heap.size := by obtain ⟨_, _, _, _, h⟩ := hl1; exact h.tbl
  clear hN hl1 hb1
  go_wp2_with fail
  generalize hV : w1.alloc (.cells #[.int .u8 1, .int .u8 0, .int .u8 0, .int .u8 0] 24) = V1 at *
  clear hV
  generalize (fun k => w.heap.size ≤ k ∧ k < w1.heap.size) = F1 at *
  have kk := A1.out.cells
  obtain ⟨k0, k1, k2, k3⟩ := kk
  have hkl := A1.out.klt
  have hc := ask_any _ tb 0 _ _ 1 0 0 K1 false V1 A1.out.lock (by decide) al1_eq
  rw [KV_K1] at hc
  refine hc.mono ?_
  rintro e V2 ⟨rfl, h2, m2⟩
  obtain ⟨F2, A2⟩ : ∃ F, Hid (Al w V2 F tb 2 w1.heap.size al1 K1) := ⟨_, Lib.hid (A1.out.step h2 m2)⟩
  clear k0 k1 k2 k3 hkl
  obtain ⟨k0, k1, k2, k3⟩ := A2.out.cells
  have hkl := A2.out.klt
  clear h2 m2 hc
  go_wp2_with fail
  have hc := ask_any _ tb 2 _ _ 2 0 0 K1 false V2 A2.out.lock (by decide) al2_eq
  rw [KV_K1] at hc
  refine hc.mono ?_
  rintro e V3 ⟨rfl, h2, m2⟩
  obtain ⟨F3, A3⟩ : ∃ F, Hid (Al w V3 F tb 4 w1.heap.size al2 K1) := ⟨_, Lib.hid (A2.out.step h2 m2)⟩
  clear k0 k1 k2 k3 hkl
  obtain ⟨k0, k1, k2, k3⟩ := A3.out.cells
  have hkl := A3.out.klt
  clear h2 m2 hc
  go_wp2_with fail
  have hc := ask_any _ tb 4 _ _ 1 3 17 K1 true V3 A3.out.lock (by decide) al3_eq
  rw [KV_K1] at hc
  refine hc.mono ?_
  rintro e V4 ⟨rfl, h2, m2⟩
  obtain ⟨F4, A4⟩ : ∃ F, Hid (Al w V4 F tb 6 w1.heap.size al3 K1) := ⟨_, Lib.hid (A3.out.step h2 m2)⟩
  clear k0 k1 k2 k3 hkl
  obtain ⟨k0, k1, k2, k3⟩ := A4.out.cells
  have hkl := A4.out.klt
  clear h2 m2 hc
  go_wp2_with fail
  have hc := ask_any _ tb 6 _ _ 3 3 17 K1 false V4 A4.out.lock (by decide) al4_eq
  rw [KV_K1] at hc
  refine hc.mono ?_
  rintro e V5 ⟨rfl, h2, m2⟩
  obtain ⟨F5, A5⟩ : ∃ F, Hid (Al w V5 F tb 8 w1.heap.size al4 K1) := ⟨_, Lib.hid (A4.out.step h2 m2)⟩
  clear k0 k1 k2 k3 hkl
  obtain ⟨k0, k1, k2, k3⟩ := A5.out.cells
  have hkl := A5.out.klt
  clear h2 m2 hc
  go_wp2_with fail
  have hc := waits_any F5 tb 8 al4 1 V5 A5.out.lock (okI_of (by decide) (by decide))
  rw [show keyW al4 1 = K1 by unfold keyW; rw [al4_wish], show (al4.wish 1).isSome = true by rw [al4_wish]; rfl, KV_K1] at hc
  refine hc.mono ?_
  rintro e V6 ⟨rfl, hb6⟩
  have A6 := Lib.hid (A5.out.still hb6)
  have B6 := A6.out.below.size
  clear hc hb6 k0 k1 k2 k3 hkl
  go_wp2_with fail
  have hb7 : Below V6.heap.size V6 (V6.alloc (.cells #[.int .u8 1, .int .u8 0, .int .u8 0, .int .u8 0] 24)) := (Below.refl _ _).alloc (Nat.le_refl _) _
  have hk7 : (V6.alloc (.cells #[.int .u8 1, .int .u8 0, .int .u8 0, .int .u8 0] 24)).heap[V6.heap.size]? = some (.cells #[.int .u8 1, .int .u8 0, .int .u8 0, .int .u8 0] 24 (0, 0)) := heap_alloc_new V6 _
  have hs7 : (V6.alloc (.cells #[.int .u8 1, .int .u8 0, .int .u8 0, .int .u8 0] 24)).heap.size = V6.heap.size + 1 := by simp
  generalize V6.alloc (.cells #[.int .u8 1, .int .u8 0, .int .u8 0, .int .u8 0] 24) = V7 at *
  have A7 := Lib.hid (A6.out.still hb7)
  have no8 : ¬ F5 V6.heap.size := fun e => by have := A6.out.lock.lt _ e; omega
  refine (late_any F5 tb 8 al4 8 V7 A7.out.lock (by decide)).mono ?_
  rintro e V8 ⟨v, l, rfl, hi8, hl8, hb8⟩
  obtain rfl := al4_late l hl8
  have A8 := Lib.hid (A7.out.still hb8)
  have hk8 := (hb8.block V6.heap.size (by omega)).trans hk7
  have hno8 : ∀ b, v.ownBlock = some b → ¬ F5 b := fun b hb e => by have h1 := A7.out.lock.lt b e; have h2 := (hi8.lt b hb).1; omega
  have hs8 := hb8.size
  have hlv8 : ∀ b, v.ownBlock = some b → b < V8.heap.size := fun b hb => (hi8.lt b hb).2
  clear hl8 hb8 hk7 hb7
  go_wp2_with fail
  refine (free_any F5 tb 8 al4 2 V8 A8.out.lock (by decide) (okI_of (by decide) (by decide))).mono ?_
  rintro e V9 ⟨rfl, st5, hf, h9, m9⟩
  have hi9 := ints_moves hi8 m9 hno8
  have hk9 := (m9.block V6.heap.size (by omega) no8).trans hk8
  have hs9 := m9.size
  have no9 : ¬ grow F5 V8 V9 V6.heap.size := fun e => e.elim no8 (fun e => by omega)
  have hno9 : ∀ b, v.ownBlock = some b → ¬ grow F5 V8 V9 b := fun b hb e => e.elim (hno8 b hb) (fun e => by have := hlv8 b hb; omega)
  obtain ⟨F9, hF9⟩ : ∃ F, grow F5 V8 V9 = F := ⟨_, rfl⟩
  have A9 := Lib.hid (A8.out.step h9 m9)
  rw [hF9] at A9 no9 hno9
  have HF := Lib.hid hf
  clear hi8 hk8 h9 m9 hno8 no8 hF9 hf hlv8
  obtain ⟨k0, k1, k2, k3⟩ := A9.out.cells
  have hkl := A9.out.klt
  go_wp2_with fail
  have hc := holds_any F9 tb 8 st5 1 2 K1 V9 A9.out.lock (by rw [al5_row HF.out]; decide +kernel)
  rw [KV_K1] at hc
  refine hc.mono ?_
  rintro e V10 ⟨rfl, hb10⟩
  have A10 := Lib.hid (A9.out.still hb10)
  have hi10 := ints_below hi9 hb10
  have hs10 := hb10.size
  have hk10 := (hb10.block V6.heap.size (by omega)).trans hk9
  clear hi9 hk9 hb10 hc k0 k1 k2 k3 hkl
  go_wp2_with fail
  obtain ⟨st6, hq, hr1, hr2, hr3⟩ := al6_eq HF.out
  have hc := quit_any F9 tb 8 st5 3 V10 A10.out.lock (by decide) (okI_of (by decide) (by decide))
  rw [hq] at hc
  refine hc.mono ?_
  rintro e V11 ⟨rfl, h11, m11⟩
  have hi11 := ints_moves hi10 m11 hno9
  have hk11 := (m11.block V6.heap.size (by omega) no9).trans hk10
  have A11 := Lib.hid (A10.out.step h11 m11)
  have HR := Lib.hid (And.intro hr1 (And.intro hr2 hr3))
  have hs11 := m11.size
  clear hc hq hr1 hr2 hr3 h11 m11 hi10 hk10 no9 hno9
  obtain ⟨A, c, rfl, hI⟩ := IntsAt.ints hi11
  have HII := Lib.hid hI
  clear hI hi11
  obtain ⟨k0, k1, k2, k3⟩ := A11.out.cells
  have hkl := A11.out.klt
  have q0 : V11.cell? ⟨V6.heap.size, 0, none⟩ = some (.int .u8 1) := by simp [World.cell?, hk11]
  have q1 : V11.cell? ⟨V6.heap.size, 1, none⟩ = some (.int .u8 0) := by simp [World.cell?, hk11]
  have q2 : V11.cell? ⟨V6.heap.size, 2, none⟩ = some (.int .u8 0) := by simp [World.cell?, hk11]
  have q3 : V11.cell? ⟨V6.heap.size, 3, none⟩ = some (.int .u8 0) := by simp [World.cell?, hk11]
  have hql : V6.heap.size < V11.heap.size := by omega
  clear hk11
  have heq : ∀ W : World, (Op.equalIn 10000 24 (.agg #[.int .u8 1, .int .u8 0, .int .u8 0, .int .u8 0]) (.agg #[.int .u8 1, .int .u8 0, .int .u8 0, .int .u8 0])).run Try.prog W = .ok true W := fun W => run_eqKey 9998 1 0 0 0 1 0 0 0 W
  go_wp2_with fail
  have hb12 : Below V11.heap.size V11 (V11.alloc (.cells #[.int .i64 1, .int .i64 3] 3)) := (Below.refl _ _).alloc (Nat.le_refl _) _
  have hc := sameInts_any A (some ⟨V11.heap.size, 0, none⟩) [1, 3] [1, 3] c 2 _ (V11.alloc (.cells #[.int .i64 1, .int .i64 3] 3)) ((HII.out.below hb12 (Nat.le_refl _)).more (by simp)) (ints_lit2 V11 1 3) (by decide) (by decide)
  refine hc.mono ?_
  rintro e V12 ⟨rfl, hd12⟩
  have A12 := Lib.hid ((A11.out.still hb12).still (hd12.below _ (Nat.le_refl _)))
  clear hc hd12 hb12 k0 k1 k2 k3 q0 q1 q2 q3 hkl hql heq
  go_wp2_with fail
  refine (keys_any _ tb 8 st6 1 V12 A12.out.lock (by decide)).mono ?_
  rintro e V13 ⟨v13, l13, rfl, hk13, hl13, hb13⟩
  obtain rfl := al_keys HR.out.1 HR.out.2.1 HR.out.2.2 (by decide +kernel) hl13
  obtain ⟨a13, c13, rfl⟩ := hk13.isSlice
  have A13 := Lib.hid (A12.out.still hb13)
  clear hk13 hl13 hb13
  go_wp2_with fail
  refine (held_any _ tb 8 st6 V13 A13.out.lock (by decide)).mono ?_
  rintro e V14 ⟨v14, l14, rfl, hk14, hl14, hb14⟩
  obtain rfl := al_keys HR.out.1 HR.out.2.1 HR.out.2.2 rfl hl14
  obtain ⟨a14, c14, rfl⟩ := hk14.isSlice
  have A14 := Lib.hid (A13.out.still hb14)
  clear hk14 hl14 hb14
  go_wp2_with fail
  refine (txs_any _ tb 8 st6 V14 A14.out.lock (by decide)).mono ?_
  rintro e V15 ⟨v15, l15, rfl, hi15, hl15, hb15⟩
  obtain rfl := al_txs HR.out.1 HR.out.2.1 hl15
  have A15 := Lib.hid (A14.out.still hb15)
  obtain ⟨a15, c15, rfl, hI15⟩ := IntsAt.ints hi15
  have HI15 := Lib.hid hI15
  clear hi15 hl15 hb15 hI15
  go_wp2_with fail
  have hb16 : Below V15.heap.size V15 (V15.alloc (.cells #[.int .i64 1] 3)) := (Below.refl _ _).alloc (Nat.le_refl _) _
  have hc := sameInts_any a15 (some ⟨V15.heap.size, 0, none⟩) [1] [1] c15 1 _ (V15.alloc (.cells #[.int .i64 1] 3)) ((HI15.out.below hb16 (Nat.le_refl _)).more (by simp)) (ints_lit1 V15 1) (by decide) (by decide)
  refine hc.mono ?_
  rintro e V16 ⟨rfl, hd16⟩
  have A16 := Lib.hid ((A15.out.still hb16).still (hd16.below _ (Nat.le_refl _)))
  clear hc hd16 hb16
  go_wp2_with fail
  go_ret
  exact ⟨rfl, A16.out.below⟩
end Go.Proofs.Ytnfodidfhnofkaa
