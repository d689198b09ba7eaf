/- The document's own Bytes, From, Show (concordatref07). -/
import Derived.Test.YtcodphddkkjocaaGreatDoorUk
import Derived.Test.YtcodphddkkjocaaGreatDoorUc
namespace Go.Proofs.YtcodphddkkjocaaGreatDoor
open Go.RowKit Go.Deep
set_option linter.unusedVariables false

set_option maxRecDepth 100000 in
set_option maxHeartbeats 1000000 in
theorem refLabFrom_no (A : Option Addr) (c l : Nat) (h : l ≠ 16) (w : World) : Calls Tryz.prog 6 #[.slice A l c] w fun e w' => e = .returned (.tuple #[labV ⟨0, 0⟩, .bool false]) ∧ Below w.heap.size w w' := by
  have hd : ((l : Int) != 16) = true := by simp; omega
  show Calls Tryz.prog 6 #[.slice A l c] w fun e w' => e = .returned (.tuple #[.agg #[.int .u64 0, .int .u64 0], .bool false]) ∧ Below w.heap.size w w'
  clear h
  go_enter Tryz.func6, Tryz.ntmps6
  go_wp2
  refine bodyPost_ret (v := .tuple #[.agg #[.int .u64 0, .int .u64 0], .bool false]) ?_ rfl ⟨rfl, ?_⟩
  · simp [results, Tryz.results6, go_sem]
  · repeat first | exact Below.refl _ _ | refine below_sc7 ?_ (by simp) _ | refine Below.drew ?_ | refine Below.alloc ?_ (by first | (simp; done) | (simp; omega)) _
set_option maxRecDepth 100000 in
set_option maxHeartbeats 1000000 in
theorem refLabFrom_yes (b off c : Nat) (zs : List Int) (hz : isBytes zs) (hl : zs.length = 16) (w : World) (g : Good (some ⟨b, off, none⟩) c zs w) :
    Calls Tryz.prog 6 #[.slice (some ⟨b, off, none⟩) 16 c] w fun e w' => e = .returned (.tuple #[labV ⟨fromN (zs.take 8), fromN (zs.drop 8)⟩, .bool true]) ∧ Below w.heap.size w w' := by
  have hc : 16 ≤ c := by have := g.2.1; omega
  have F1 : ∀ W, Good (some ⟨b, off, none⟩) c zs W → Calls Tryz.prog 26 #[.slice (some ⟨b, off, none⟩) 8 c] W fun e w' => e = .returned (.tuple #[.int .u64 (fromN (zs.take 8)), .bool true]) ∧ Below W.heap.size W w' := fun W h =>
    (refFrom_core (some ⟨b, off, none⟩) (zs.take 8) c 8 (fromN (zs.take 8)) (by rw [List.length_take]; omega) (fun z h => hz z (List.mem_of_mem_take h)) (by omega) W (h.take 8).1 (Lib.hid rfl)).mono fun e w' ⟨he, hw⟩ => ⟨he, by rw [← hw]; exact Below.refl _ _⟩
  have F2 : ∀ W, Good (some ⟨b, off, none⟩) c zs W → Calls Tryz.prog 26 #[.slice (some ⟨b, off + 8, none⟩) 8 (c - 8)] W fun e w' => e = .returned (.tuple #[.int .u64 (fromN (zs.drop 8)), .bool true]) ∧ Below W.heap.size W w' := fun W h =>
    (refFrom_core (some ⟨b, off + 8, none⟩) (zs.drop 8) (c - 8) 8 (fromN (zs.drop 8)) (by rw [List.length_drop]; omega) (fun z h => hz z (List.mem_of_mem_drop h)) (by omega) W (h.drop 8 (by omega)).1 (Lib.hid rfl)).mono fun e w' ⟨he, hw⟩ => ⟨he, by rw [← hw]; exact Below.refl _ _⟩
  generalize fromN (zs.take 8) = p at *
  generalize fromN (zs.drop 8) = q at *
  have g1 := g.alloc (.cells #[.int .u64 0, .int .u64 0] 24)
  have b1 := LabBox.new w 0 0 24
  rw [Int.natCast_zero] at b1
  show Calls Tryz.prog 6 #[.slice (some ⟨b, off, none⟩) 16 c] w fun e w' => e = .returned (.tuple #[.agg #[.int .u64 p, .int .u64 q], .bool true]) ∧ Below w.heap.size w w'
  clear hl hz
  go_enter Tryz.func6, Tryz.ntmps6
  go_wp2_with fail
  refine (F1 _ g1).mono ?_
  rintro e w1 ⟨rfl, k1⟩
  have b2 := b1.below k1 (by simp)
  have g2 := g1.below k1
  have hB1 : Below w.heap.size w w1 := below_more ((Below.refl _ w).alloc (Nat.le_refl _) _) k1 (Nat.le_refl _)
  clear k1 b1 g1 F1
  go_wp2_with fail
  refine (F2 _ g2).mono ?_
  rintro e w2 ⟨rfl, k2⟩
  have b3 := b2.below k2 b2.lt
  have hB2 := below_more hB1 k2 (Nat.le_refl _)
  obtain ⟨c0, c1, _, _, _⟩ := b3
  clear F2 k2 b2 g2 hB1
  go_wp2
  refine bodyPost_ret (v := .tuple #[.agg #[.int .u64 p, .int .u64 q], .bool true]) ?_ rfl ⟨rfl, ?_⟩
  · simp [results, Tryz.results6, go_sem, c0, c1]
  · repeat first | exact hB2 | refine below_sc7 ?_ (by simp) _ | refine Below.drew ?_

theorem ref_show_state (w : World) (x y : Nat) (hx : x < 18446744073709551616) (hy : y < 18446744073709551616) (gt : TypeId) (tx ty : ByteArray) (ex : strB (textB x) = tx) (ey : strB (textB y) = ty) :
    ∃ T : World → Prop, (∀ W, T W → (W.cell? ⟨w.heap.size, 0, none⟩ = some (.int .u64 x) ∧ W.cell? ⟨w.heap.size, 1, none⟩ = some (.int .u64 y))) ∧ T (w.alloc (.cells #[.int .u64 x, .int .u64 y] gt)) ∧ (∀ W, T W → T W.drew) ∧ (∀ W, T W → Below w.heap.size w W) ∧
      (∀ W, T W → Calls Tryz.prog 42 #[.int .u64 x] W fun e w' => e = .returned (.string tx) ∧ T w') ∧
      (∀ W, T W → Calls Tryz.prog 42 #[.int .u64 y] W fun e w' => e = .returned (.string ty) ∧ T w') := by
  refine ⟨LabSt w x y, fun W h => ⟨h.c0, h.c1⟩, LabSt.new w x y gt, fun W h => h.below (below_drewN (Below.refl _ _) 1), fun W h => h.b, fun W h => ?_, fun W h => ?_⟩
  · refine (ref_show x tx hx ex W).mono ?_
    rintro e w' ⟨rfl, hb⟩
    exact ⟨rfl, h.below hb⟩
  · refine (ref_show y ty hy ey W).mono ?_
    rintro e w' ⟨rfl, hb⟩
    exact ⟨rfl, h.below hb⟩
set_option maxRecDepth 100000 in
set_option maxHeartbeats 1000000 in
theorem refLabShow (x y : Nat) (hx : x < 18446744073709551616) (hy : y < 18446744073709551616) (w : World) :
    Calls Tryz.prog 24 #[labV ⟨x, y⟩] w fun e w' => e = .returned (.string (strB (labT x y))) ∧ Below w.heap.size w w' := by
  obtain ⟨tx, ex⟩ : ∃ tx, strB (textB x) = tx := ⟨_, rfl⟩
  obtain ⟨ty, ey⟩ : ∃ ty, strB (textB y) = ty := ⟨_, rfl⟩
  obtain ⟨T, t0, t1, td, tb, F1, F2⟩ := ref_show_state w x y hx hy 24 tx ty ex ey
  have z1 : tx.size ≤ 400 := by rw [← ex]; exact text_len hx
  have z2 : ty.size ≤ 400 := by rw [← ey]; exact text_len hy
  have e0 : ((⟨#[115, 58]⟩ : ByteArray) ++ tx ++ ⟨#[32, 116, 58]⟩ ++ ty) = strB (labT x y) := by
    rw [← ex, ← ey]
    unfold labT
    rw [← strB_append, ← strB_append, ← strB_append]; rfl
  have z4 : (strB (labT x y)).size ≤ 805 := lab_len hx hy
  generalize strB (labT x y) = t4 at *
  obtain ⟨t2, e2⟩ : ∃ t2, (⟨#[115, 58]⟩ : ByteArray) ++ tx = t2 := ⟨_, rfl⟩
  rw [e2] at e0
  obtain ⟨t3, e3⟩ : ∃ t3, t2 ++ (⟨#[32, 116, 58]⟩ : ByteArray) = t3 := ⟨_, rfl⟩
  rw [e3] at e0
  have z3 : t2.size ≤ 402 := by rw [← e2, ByteArray.size_append]; exact Nat.add_le_add_left z1 2
  have z5 : t3.size ≤ 405 := by rw [← e3, ByteArray.size_append]; exact Nat.add_le_add_right z3 3
  have y1 : ¬ (9223372036854775807 < 2 + tx.size) := by omega
  have y2 : ¬ (9223372036854775807 < t2.size + 3) := by omega
  have y3 : ¬ (9223372036854775807 < t3.size + ty.size) := by omega
  clear ex ey hx hy z1 z2 z3 z4 z5
  unfold labV
  go_enter Tryz.func24, Tryz.ntmps24
  go_wp2
  generalize w.alloc (.cells #[.int .u64 x, .int .u64 y] 24) = W0 at *
  have td := td _ t1
  go_region_held3 (fun w' => (w'.cell? ⟨w.heap.size, 0, none⟩ = some (.int .u64 x) ∧ w'.cell? ⟨w.heap.size, 1, none⟩ = some (.int .u64 y))) (first | assumption | exact t0 _ (by assumption)) (first
    | (go_at_call 42; (with_reducible refine (F2 _ (by assumption)).mono ?_); rintro e w' ⟨rfl, hk⟩)
    | (go_at_call 42; (with_reducible refine (F1 _ (by assumption)).mono ?_); rintro e w' ⟨rfl, hk⟩))
  go_wp2
  go_ret
  exact ⟨rfl, tb _ (by assumption)⟩
/-- Bytes appended to bytes of one's own, as one step of a region that draws. -/
theorem step_own7 {o : Oper} {a : Act} {K : Act → World → Prop} {Q : Exit → Act → World → Prop} (W : World) (hgd : o.guard = none) (s x : Operand) (ho : o.op = .call { callee := .builtin .append, args := #[s, x], argTypes := #[25, 25] })
    (base : Nat) (v : Value) (zs : List Int) (hs : a.eval s = v) (hown : Owns base W v zs) (A' : Option Addr) (ts : List Int) (l' c' : Nat) (hx : a.eval x = .slice A' l' c') (hll : ts.length = l') (g : Good A' c' ts W) (h0 : 0 < ts.length) (hl : zs.length + ts.length ≤ 10000) (hbase : base ≤ W.heap.size)
    (h : ∀ v' w', Owns base w' v' (zs ++ ts) → Below base W w' → K (a.put o.dst v') w') : Oper.wp Tryz.prog o a W K Q := by
  obtain ⟨i0, hi, hz0, hz1, hz2⟩ := info_parts info_u8
  cases A' with
  | none => have := g.none_nil.1; rw [this] at h0; cases h0
  | some ad =>
    refine wp_append_own W s x 25 ho base 5 i0 (.int .u8 0) 1 1 Tryz.underlying25 hi hz0 hz1 hz2 rfl (by decide) v zs.length _ hs hown ad l' c' (ts.map (Value.int .u8)) hx (by simp [hll]) (cells_of_good rfl g) (one_u8 ts) (by simp only [maxLen]; omega) (by omega) hbase (fun v' w' hown' hgrow _ => h v' w' ?_ ((Below.refl base W).grown hgrow hbase (fun k e => (World.ownsRow.lt hown k e).1)))
    unfold Owns
    rw [List.length_append, List.map_append, hll]
    exact hown'
/-- The calls that Bytes makes, in worlds in which its label lies. -/
theorem refBytes_state (w : World) (x y : Nat) (hx : x < 18446744073709551616) (hy : y < 18446744073709551616) (gt : TypeId) :
    ∃ T : World → Prop, (∀ W, T W → (W.cell? ⟨w.heap.size, 0, none⟩ = some (.int .u64 x) ∧ W.cell? ⟨w.heap.size, 1, none⟩ = some (.int .u64 y))) ∧ T (w.alloc (.cells #[.int .u64 x, .int .u64 y] gt)) ∧ (∀ W, T W → T W.drew) ∧ (∀ W, T W → Below w.heap.size w W) ∧ (∀ W, T W → w.heap.size + 1 ≤ W.heap.size) ∧ (∀ W W', T W → Below (w.heap.size + 1) W W' → T W') ∧
      (∀ W, T W → Calls Tryz.prog 40 #[.int .u64 x, .int .i64 8] W fun e w' => ∃ v, e = .returned v ∧ Owns (w.heap.size + 1) w' v (bytesL x 8) ∧ T w') ∧
      (∀ v W, T W → Owns (w.heap.size + 1) W v (bytesL x 8) → Calls Tryz.prog 40 #[.int .u64 y, .int .i64 8] W fun e w' => ∃ A c, e = .returned (.slice A 8 c) ∧ Good A c (bytesL y 8) w' ∧ Owns (w.heap.size + 1) w' v (bytesL x 8) ∧ T w') := by
  have hm : ∀ W, LabSt w x y W → w.heap.size + 1 ≤ W.heap.size := fun W h => h.lt
  refine ⟨LabSt w x y, fun W h => ⟨h.c0, h.c1⟩, LabSt.new w x y gt, fun W h => h.below (below_drewN (Below.refl _ _) 1), fun W h => h.b, hm, fun W W' h hb => ?_, fun W h => ?_, fun v W h g => ?_⟩
  · exact ⟨(hb.cell (p := ⟨w.heap.size, 0, none⟩) (Nat.lt_succ_self _)).trans h.c0, (hb.cell (p := ⟨w.heap.size, 1, none⟩) (Nat.lt_succ_self _)).trans h.c1, h.b.trans (hb.mono (Nat.le_succ _)), Nat.lt_of_lt_of_le h.lt hb.size⟩
  · refine (refBytes8 x hx W).mono ?_
    rintro e w' ⟨v, rfl, hown, hb⟩
    refine ⟨v, rfl, ⟨hown.1, ?_⟩, h.below hb⟩
    rcases hown.2 with k | ⟨g, cap, cur, h1, k2, h3⟩
    · exact .inl k
    · exact .inr ⟨g, cap, cur, h1, Nat.le_trans (hm W h) k2, h3⟩
  · refine (refBytes8 y hy W).mono ?_
    rintro e w' ⟨v', rfl, hown, hb⟩
    obtain ⟨A, c, rfl, g'⟩ := hown.good
    rw [bytesL_length]
    exact ⟨A, c, rfl, g', g.below hb, h.below hb⟩
set_option maxRecDepth 100000 in
set_option maxHeartbeats 2000000 in
theorem refLabBytes (a : LabD) (ha : a.ok) (w : World) : Calls Tryz.prog 22 #[labV a] w (GivesB (labB a) w) := by
  obtain ⟨x, y⟩ := a
  obtain ⟨T, t0, t1, td, tb, tlt, tk, F1, F2⟩ := refBytes_state w x y ha.1 ha.2 24
  obtain ⟨i0, hi, hz0, hz1, hz2⟩ := info_parts info_u8
  show Calls Tryz.prog 22 #[labV ⟨x, y⟩] w (GivesB (bytesL x 8 ++ bytesL y 8) w)
  have ex := bytesL_length x 8
  have ey := bytesL_length y 8
  generalize bytesL x 8 = zs at *
  generalize bytesL y 8 = ts at *
  unfold labV
  clear ha
  go_enter Tryz.func22, Tryz.ntmps22
  go_wp2
  generalize w.alloc (.cells #[.int .u64 x, .int .u64 y] 24) = W0 at *
  have l0 := td _ t1
  refine wp_region_noPanic ?_
  refine wp_region_held_drew (S := fun w' => (w'.cell? ⟨w.heap.size, 0, none⟩ = some (.int .u64 x) ∧ w'.cell? ⟨w.heap.size, 1, none⟩ = some (.int .u64 y))) (by kernel_rfl) (t0 _ l0) (fun hHeld => ?_)
  try simp only [Act.put, List.setIfInBounds_toArray, List.set_cons_zero, List.set_cons_succ]
  refine wpAnyH_take (i := 0) (oi := ⟨some 3, _, _, _, _, _⟩) (v := ?v0) rfl (by kernel_rfl) (by kernel_rfl) (by kernel_rfl) (fun _ _ _ h => h) (Or.inl ⟨by rfl, ?y0⟩) (by assumption) ?r0
  case y0 =>
    intro w hSw
    try dsimp only at hSw
    go_simp
    try with_reducible rfl
  try simp only [Act.put, List.setIfInBounds_toArray, List.set_cons_zero, List.set_cons_succ]
  refine wpAnyH_take (i := 1) (oi := ⟨some 4, _, _, _, _, _⟩) (v := ?v1) rfl (by kernel_rfl) (by kernel_rfl) (by kernel_rfl) (fun _ _ _ h => h) (Or.inl ⟨by rfl, ?y1⟩) (by assumption) ?r1
  case y1 =>
    intro w hSw
    try dsimp only at hSw
    go_simp
    try with_reducible rfl
  try simp only [Act.put, List.setIfInBounds_toArray, List.set_cons_zero, List.set_cons_succ]
  refine wpAnyH_take (i := 3) (oi := ⟨some 6, _, _, _, _, _⟩) (v := ?v3) rfl (by kernel_rfl) (by kernel_rfl) (by kernel_rfl) (fun _ _ _ h => h) (Or.inl ⟨by rfl, ?y3⟩) (by assumption) ?r3
  case y3 =>
    intro w hSw
    try dsimp only at hSw
    go_simp
    try with_reducible rfl
  try simp only [Act.put, List.setIfInBounds_toArray, List.set_cons_zero, List.set_cons_succ]
  refine wpAnyH_take (i := 4) (oi := ⟨some 7, _, _, _, _, _⟩) (v := ?v4) rfl (by kernel_rfl) (by kernel_rfl) (by kernel_rfl) (fun _ _ _ h => h) (Or.inl ⟨by rfl, ?y4⟩) (by assumption) ?r4
  case y4 =>
    intro w hSw
    try dsimp only at hSw
    go_simp
    try with_reducible rfl
  try simp only [Act.put, List.setIfInBounds_toArray, List.set_cons_zero, List.set_cons_succ]
  refine wpAnyH_ready (rs := [2]) (by kernel_rfl) (by simp) ?_
  refine AllReadyH.cons (o := ⟨some 5, _, _, _, _, _⟩) rfl (fun K hK => ?_) AllReadyH.nil
  rw [if_pos (by rfl)]
  go_simp
  go_at_call 40
  (with_reducible refine (F1 _ (by assumption)).mono ?_)
  rintro e w2 ⟨v1, rfl, o1, k1⟩
  refine hK.out _ _ (t0 _ k1) (fun hHeld2 => ?_)
  clear hK K
  try simp only [Act.put, List.setIfInBounds_toArray, List.set_cons_zero, List.set_cons_succ]
  refine wpAnyH_ready (rs := [5]) (by kernel_rfl) (by simp) ?_
  refine AllReadyH.cons (o := ⟨some 8, _, _, _, _, _⟩) rfl (fun K hK => ?_) AllReadyH.nil
  rw [if_pos (by rfl)]
  go_simp
  go_at_call 40
  (with_reducible refine (F2 _ _ (by assumption) (by assumption)).mono ?_)
  rintro e w3 ⟨A, c, rfl, g2, o2, k2⟩
  refine hK.out _ _ (t0 _ k2) (fun hHeld3 => ?_)
  clear hK K
  try simp only [Act.put, List.setIfInBounds_toArray, List.set_cons_zero, List.set_cons_succ]
  refine wpAnyH_ready (rs := [6]) (by kernel_rfl) (by simp) ?_
  refine AllReadyH.cons (o := ⟨some 9, _, _, _, _, _⟩) rfl (fun K hK => ?_) AllReadyH.nil
  rw [if_pos (by rfl)]
  have hsz : w.heap.size + 1 ≤ w3.heap.size := tlt _ k2
  refine step_own7 _ rfl _ _ rfl (w.heap.size + 1) v1 zs (by rfl) o2 A ts 8 c (by rfl) ey g2 (by omega) (by omega) hsz (fun v' w4 o4 hb4 => ?_)
  refine hK.out _ _ (t0 _ (tk _ _ k2 hb4)) (fun hHeld4 => ?_)
  clear hK K
  try simp only [Act.put, List.setIfInBounds_toArray, List.set_cons_zero, List.set_cons_succ]
  refine wpAnyH_take (i := 7) (oi := ⟨some 2, _, _, _, _, _⟩) (v := ?v7) rfl (by kernel_rfl) (by kernel_rfl) (by kernel_rfl) (fun _ _ _ h => h) (Or.inl ⟨by rfl, ?y7⟩) (by assumption) ?r7
  case y7 =>
    intro w hSw
    try dsimp only at hSw
    go_simp
    try with_reducible rfl
  try simp only [Act.put, List.setIfInBounds_toArray, List.set_cons_zero, List.set_cons_succ]
  refine wpAnyH_done (by kernel_rfl) (NoPanic.normal ?_) _
  go_wp2
  go_ret
  have k4 := tk _ _ k2 hb4
  refine ⟨v', rfl, ⟨o4.1, ?_⟩, tb _ k4⟩
  rcases o4.2 with k | ⟨g, cap, cur, h1, q2, h3⟩
  · exact .inl k
  · exact .inr ⟨g, cap, cur, h1, Nat.le_trans (Nat.le_succ _) q2, h3⟩
end Go.Proofs.YtcodphddkkjocaaGreatDoor
