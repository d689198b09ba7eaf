/- The records that the document fixes ('alive'). -/
import Derived.Test.YtlohogcddelekaaEp
namespace Go.Proofs.Ytlohogcddelekaa
open Go.RowKit Go.Deep
set_option linter.unusedVariables false

def r5 : RecD := ⟨4, 5, 0, 0, 0, 0, 0, false, 0, false, 0⟩
def rw1 : RecD := ⟨1, 1, 0, 1, 2, 3, 4, false, 0, true, -1⟩
theorem r5_right : rightB r5 = true := by decide +kernel
theorem rw1_right : rightB rw1 = true := by decide +kernel
theorem r0_wrong : rightB zeroR = false := by decide +kernel
theorem r5_ok : okR r5 := ⟨by decide, by decide, by decide, by decide, by decide, ⟨by decide, by decide⟩, ⟨by decide, by decide⟩⟩
theorem rw1_ok : okR rw1 := ⟨by decide, by decide, by decide, by decide, by decide, ⟨by decide, by decide⟩, ⟨by decide, by decide⟩⟩
theorem r5_bytes : encL r5 = [43, 0, 0] := by decide +kernel
def wb : List Int := [8, 0, 0, 1, 2, 3, 4, 2, 1]
theorem rw1_bytes : encL rw1 = wb := by decide +kernel
theorem both_bytes : joinL [r5, rw1] = [43, 0, 0] ++ wb := by
  rw [joinL_cons, joinL_cons, r5_bytes, rw1_bytes]; rfl
theorem both_all : Stops ([43, 0, 0] ++ wb) 2 ∧ posN ([43, 0, 0] ++ wb) 2 = 12 ∧ recsN ([43, 0, 0] ++ wb) 2 = [r5, rw1] := by
  have h := back_all [r5, rw1] (fun r hr => by simp at hr; rcases hr with h | h <;> rw [h] <;> first | exact r5_right | exact rw1_right) (fun r hr => by simp at hr; rcases hr with h | h <;> rw [h] <;> first | exact r5_ok | exact rw1_ok) 12 2 (by simp) (by simp [endsN, both_bytes, wb]) (fun h => by simp at h)
  rw [both_bytes] at h
  have e : (([43, 0, 0] : List Int) ++ wb).take 12 = [43, 0, 0] ++ wb := rfl
  rw [e] at h
  refine ⟨h.1, h.2.1.trans ?_, h.2.2⟩
  simp [endsN, both_bytes, wb]
theorem dec_four : decR [43, 0, 0, 9] = r5 ∧ decN [43, 0, 0, 9] = 3 := by
  have h := dec_of [43, 0, 0, 9] r5 r5_right r5_ok (by rw [r5_bytes]; exact ⟨[9], rfl⟩)
  exact ⟨h.2.1, h.2.2.trans (by rw [r5_bytes]; rfl)⟩
theorem bytes_four : isBytes [43, 0, 0, 9] := by unfold isBytes; decide
theorem bytes_both : isBytes ([43, 0, 0] ++ wb) := by unfold isBytes wb; decide
theorem good_lit (w : World) (zs : List Int) (C : Array Value) (n : Nat) (hC : C = (zs.map (Value.int .u8)).toArray) (hn : zs.length = n) : Good (some ⟨w.heap.size, 0, none⟩) n zs (w.alloc (.cells C 5)) := by
  subst hC hn
  refine ⟨fun _ => ⟨w.heap.size, 0, rfl, by simp, fun j hj => ?_⟩, Nat.le_refl _, fun e => by cases e⟩
  rw [Nat.zero_add, cell_of_row _ w.heap.size j _ 5 (0, 0) (heap_alloc_new w _)]
  simp [hj]
def Alive (w : World) : Prop := Calls Try.prog 8 #[] w fun e w' => e = .returned (.bool true) ∧ Below w.heap.size w w'
set_option maxRecDepth 100000 in
set_option maxHeartbeats 4000000 in
theorem alive_any (w : World) : Alive w := by
  unfold Alive
  have c1 : ∀ W, Calls Try.prog 16 #[.agg #[.int .i64 4, .int .i64 5, .int .u16 0, .int .u8 0, .int .u8 0, .int .u8 0, .int .u8 0, .bool false, .int .i64 0, .bool false, .int .i64 0]] W fun e w' => ∃ v, e = .returned (.tuple #[v, .bool true]) ∧ Owns W.heap.size w' v [43, 0, 0] ∧ Below W.heap.size W w' := fun W => by
    have := enc_yes r5 r5_right r5_ok W
    unfold EncSays at this
    rw [r5_bytes] at this
    exact this
  have c2 : ∀ A c W, Good A c [43, 0, 0, 9] W → Calls Try.prog 10 #[.slice A 4 c] W fun e w' => e = .returned (.tuple #[.agg #[.int .i64 4, .int .i64 5, .int .u16 0, .int .u8 0, .int .u8 0, .int .u8 0, .int .u8 0, .bool false, .int .i64 0, .bool false, .int .i64 0], .int .i64 3]) ∧ Below W.heap.size W w' := fun A c W h => by
    have := dec_any A 4 c [43, 0, 0, 9] rfl bytes_four W h
    rw [dec_four.1, dec_four.2] at this
    exact this
  have c3 : ∀ W, Calls Try.prog 16 #[.agg #[.int .i64 1, .int .i64 1, .int .u16 0, .int .u8 1, .int .u8 2, .int .u8 3, .int .u8 4, .bool false, .int .i64 0, .bool true, .int .i64 (-1)]] W fun e w' => ∃ A c, e = .returned (.tuple #[.slice A 9 c, .bool true]) ∧ Good A c wb w' ∧ Below W.heap.size W w' := fun W => by
    refine (enc_yes rw1 rw1_right rw1_ok W).mono ?_
    rintro e w' ⟨v, rfl, o, k⟩
    rw [rw1_bytes] at o
    obtain ⟨A, c, rfl, g⟩ := o.good
    exact ⟨A, c, rfl, g, k⟩
  have c4 := fun A c W h => copyB A [43, 0, 0] c 3 rfl (by omega) W h
  have c5 : ∀ A c W, Good A c ([43, 0, 0] ++ wb) W → Calls Try.prog 12 #[.slice A 12 c] W fun e w' => ∃ b o c', e = .returned (.tuple #[.slice (some ⟨b, o, none⟩) 2 c', .int .i64 12]) ∧ b < w'.heap.size ∧ RecO w' b (o + 11) rw1 ∧ Below W.heap.size W w' := fun A c W h => by
    refine (all_any A 12 c ([43, 0, 0] ++ wb) rfl (by omega) bytes_both W h).mono ?_
    rintro e w' ⟨k, v, hs, rfl, o, kb⟩
    obtain rfl : k = 2 := stops_one hs both_all.1
    rw [both_all.2.2] at o
    rw [both_all.2.1]
    obtain ⟨A', c', rfl, g'⟩ := o.good
    obtain ⟨b, off, rfl, hlt, hc⟩ := g'.cells 1 (by simp)
    exact ⟨b, off, c', rfl, hlt, hc, kb⟩
  have c6 : ∀ A A' c c' W, Good A c [43, 0, 0] W → Good A' c' [43, 0, 0] W → Calls Try.prog 20 #[.slice A 3 c, .slice A' 3 c'] W fun e w' => e = .returned (.bool true) ∧ Below W.heap.size W w' := fun A A' c c' W h h' => sameB A A' [43, 0, 0] [43, 0, 0] c c' 3 3 true rfl rfl (by omega) (by omega) (by decide) W h h'
  have c7 : ∀ W, Calls Try.prog 18 #[.agg #[.int .i64 1, .int .i64 1, .int .u16 0, .int .u8 1, .int .u8 2, .int .u8 3, .int .u8 4, .bool false, .int .i64 0, .bool true, .int .i64 (-1)]] W fun e w' => e = .returned (.bool true) ∧ Below W.heap.size W w' := fun W => right_any rw1 true rw1_right W
  have c8 : ∀ W, Calls Try.prog 18 #[.agg #[.int .i64 0, .int .i64 0, .int .u16 0, .int .u8 0, .int .u8 0, .int .u8 0, .int .u8 0, .bool false, .int .i64 0, .bool false, .int .i64 0]] W fun e w' => e = .returned (.bool false) ∧ Below W.heap.size W w' := fun W => right_any zeroR false r0_wrong W
  go_enter Try.func8, Try.ntmps8
  go_wp2_with fail
  (with_reducible refine (c1 w).mono ?_)
  rintro e w1 ⟨v1, rfl, o1, k1⟩
  obtain ⟨A1, d1, rfl, g1⟩ := o1.good
  rw [show ([43, 0, 0] : List Int).length = 3 from rfl]
  clear c1 o1
  go_wp2_with fail
  have gl := good_lit w1 [43, 0, 0, 9] #[.int .u8 43, .int .u8 0, .int .u8 0, .int .u8 9] 4 rfl rfl
  (with_reducible refine (c2 _ _ _ gl).mono ?_)
  rintro e w2 ⟨rfl, k2⟩
  have b2 : Below w.heap.size w w2 := (k1.alloc k1.size _).trans (k2.mono (by have := k1.size; simp; omega))
  have g2 := (g1.alloc _).below k2
  clear c2 gl k2 k1 g1
  have rr : RecBox ((w2.alloc (.cells #[.int .i64 4, .int .i64 5, .int .u16 0, .int .u8 0, .int .u8 0, .int .u8 0, .int .u8 0, .bool false, .int .i64 0, .bool false, .int .i64 0] 32)).alloc (.cells #[.int .i64 1, .int .i64 1, .int .u16 0, .int .u8 1, .int .u8 2, .int .u8 3, .int .u8 4, .bool false, .int .i64 0, .bool true, .int .i64 (-1)] 32)) w2.heap.size r5 := (recBox_new w2 r5).below ((Below.refl _ _).alloc (Nat.le_refl _) _) (by simp)
  have rq : RecBox ((w2.alloc (.cells #[.int .i64 4, .int .i64 5, .int .u16 0, .int .u8 0, .int .u8 0, .int .u8 0, .int .u8 0, .bool false, .int .i64 0, .bool false, .int .i64 0] 32)).alloc (.cells #[.int .i64 1, .int .i64 1, .int .u16 0, .int .u8 1, .int .u8 2, .int .u8 3, .int .u8 4, .bool false, .int .i64 0, .bool true, .int .i64 (-1)] 32)) (w2.heap.size + 1) rw1 := by
    have := recBox_new (w2.alloc (.cells #[.int .i64 4, .int .i64 5, .int .u16 0, .int .u8 0, .int .u8 0, .int .u8 0, .int .u8 0, .bool false, .int .i64 0, .bool false, .int .i64 0] 32)) rw1
    rw [show (w2.alloc (.cells #[.int .i64 4, .int .i64 5, .int .u16 0, .int .u8 0, .int .u8 0, .int .u8 0, .int .u8 0, .bool false, .int .i64 0, .bool false, .int .i64 0] 32)).heap.size = w2.heap.size + 1 by simp] at this
    exact this
  have bb : Below w.heap.size w ((w2.alloc (.cells #[.int .i64 4, .int .i64 5, .int .u16 0, .int .u8 0, .int .u8 0, .int .u8 0, .int .u8 0, .bool false, .int .i64 0, .bool false, .int .i64 0] 32)).alloc (.cells #[.int .i64 1, .int .i64 1, .int .u16 0, .int .u8 1, .int .u8 2, .int .u8 3, .int .u8 4, .bool false, .int .i64 0, .bool true, .int .i64 (-1)] 32)) := (b2.alloc b2.size _).alloc (by have := b2.size; simp; omega) _
  have gg := (g2.alloc (.cells #[.int .i64 4, .int .i64 5, .int .u16 0, .int .u8 0, .int .u8 0, .int .u8 0, .int .u8 0, .bool false, .int .i64 0, .bool false, .int .i64 0] 32)).alloc (.cells #[.int .i64 1, .int .i64 1, .int .u16 0, .int .u8 1, .int .u8 2, .int .u8 3, .int .u8 4, .bool false, .int .i64 0, .bool true, .int .i64 (-1)] 32)
  clear b2 g2
  go_wp2_with fail
  (with_reducible refine (c3 _).mono ?_)
  rintro e w3 ⟨A3, d3, rfl, g3, k3⟩
  have rr3 := rr.below k3 rr.at_.lt
  have rq3 := rq.below k3 rq.at_.lt
  have b3 := below_more bb k3 (Nat.le_refl _)
  have gb3 := gg.below k3
  clear c3 rr rq bb gg k3
  go_wp2_with fail
  (with_reducible refine (c4 _ _ _ gb3).mono ?_)
  rintro e w4 ⟨v4, rfl, o4, k4⟩
  have G3 := g3.below k4
  have b3s := b3.size
  go_wp2_with (at_builtin; refine wpList_appendB rfl _ _ rfl w3.heap.size v4 [43, 0, 0] rfl o4 A3 wb 9 d3 rfl rfl G3 (by simp [wb]) k4.size w3 k4 ?_; intro v5 w5 o5 k5; obtain ⟨A5, d5, e5, g5⟩ := o5.good; rw [show (([43, 0, 0] : List Int) ++ wb).length = 12 from rfl] at e5; subst e5)
  (with_reducible refine (c5 _ _ _ g5).mono ?_)
  rintro e w6 ⟨lb, lo, d6, rfl, hlb, hro, k6⟩
  have k36 := below_more k5 k6 (Nat.le_refl _)
  have rr6 := rr3.below k36 rr3.at_.lt
  have rq6 := rq3.below k36 rq3.at_.lt
  have b6 := below_more b3 k36 (Nat.le_refl _)
  have g6 := gb3.below k36
  clear c4 c5 rr3 rq3 b3 gb3 g3 G3 o4 k4 o5 k5 k6 k36 g5 b3s
  have kS : ∀ W, Below w6.heap.size w6 W → (W.cell? ⟨w2.heap.size, 0, none⟩ = some (.int .i64 4) ∧ W.cell? ⟨w2.heap.size, 1, none⟩ = some (.int .i64 5) ∧ W.cell? ⟨w2.heap.size + 1, 0, none⟩ = some (.int .i64 1) ∧ W.cell? ⟨w2.heap.size + 1, 1, none⟩ = some (.int .i64 1) ∧ W.cell? ⟨w2.heap.size + 1, 2, none⟩ = some (.int .u16 0) ∧ W.cell? ⟨w2.heap.size + 1, 3, none⟩ = some (.int .u8 1) ∧ W.cell? ⟨w2.heap.size + 1, 4, none⟩ = some (.int .u8 2) ∧ W.cell? ⟨w2.heap.size + 1, 5, none⟩ = some (.int .u8 3) ∧ W.cell? ⟨w2.heap.size + 1, 6, none⟩ = some (.int .u8 4) ∧ W.cell? ⟨w2.heap.size + 1, 7, none⟩ = some (.bool false) ∧ W.cell? ⟨w2.heap.size + 1, 8, none⟩ = some (.int .i64 0) ∧ W.cell? ⟨w2.heap.size + 1, 9, none⟩ = some (.bool true) ∧ W.cell? ⟨w2.heap.size + 1, 10, none⟩ = some (.int .i64 (-1)) ∧ W.cell? ⟨lb, lo + 11, none⟩ = some (.int .i64 1) ∧ W.cell? ⟨lb, lo + 12, none⟩ = some (.int .i64 1) ∧ W.cell? ⟨lb, lo + 13, none⟩ = some (.int .u16 0) ∧ W.cell? ⟨lb, lo + 14, none⟩ = some (.int .u8 1) ∧ W.cell? ⟨lb, lo + 15, none⟩ = some (.int .u8 2) ∧ W.cell? ⟨lb, lo + 16, none⟩ = some (.int .u8 3) ∧ W.cell? ⟨lb, lo + 17, none⟩ = some (.int .u8 4) ∧ W.cell? ⟨lb, lo + 18, none⟩ = some (.bool false) ∧ W.cell? ⟨lb, lo + 19, none⟩ = some (.int .i64 0) ∧ W.cell? ⟨lb, lo + 20, none⟩ = some (.bool true) ∧ W.cell? ⟨lb, lo + 21, none⟩ = some (.int .i64 (-1)) ∧ Below w6.heap.size w6 W) := fun W hb => by
    have r' := rr6.below hb rr6.at_.lt
    have q' := rq6.below hb rq6.at_.lt
    have l' := hro.below hb hlb
    exact ⟨r'.at_.c0, r'.at_.c1, q'.at_.c0, q'.at_.c1, q'.at_.c2, q'.at_.c3, q'.at_.c4, q'.at_.c5, q'.at_.c6, q'.at_.c7, q'.at_.c8, q'.at_.c9, q'.at_.c10, l' 0 _ rfl, l' 1 _ rfl, l' 2 _ rfl, l' 3 _ rfl, l' 4 _ rfl, l' 5 _ rfl, l' 6 _ rfl, l' 7 _ rfl, l' 8 _ rfl, l' 9 _ rfl, l' 10 _ rfl, hb⟩
  have kD : Below w6.heap.size w6 w6.drew := (Below.refl _ _).drew
  have kA : ∀ W o, Below w6.heap.size w6 W → Below w6.heap.size w6 (W.alloc o) := fun W o h => h.alloc h.size o
  have hlit : ∀ W : World, Good (some ⟨W.heap.size, 0, none⟩) 3 [43, 0, 0] (W.alloc (.cells #[.int .u8 43, .int .u8 0, .int .u8 0] 5)) := fun W => good_lit W [43, 0, 0] _ 3 rfl rfl
  have hlitd : ∀ W : World, Good (some ⟨W.heap.size, 0, none⟩) 3 [43, 0, 0] (W.alloc (.cells #[.int .u8 43, .int .u8 0, .int .u8 0] 5)).drew := fun W => (hlit W).drewN 1
  have hE : ∀ W : World, (binOp .eql 32 (.agg #[.int .i64 1, .int .i64 1, .int .u16 0, .int .u8 1, .int .u8 2, .int .u8 3, .int .u8 4, .bool false, .int .i64 0, .bool true, .int .i64 (-1)]) (.agg #[.int .i64 1, .int .i64 1, .int .u16 0, .int .u8 1, .int .u8 2, .int .u8 3, .int .u8 4, .bool false, .int .i64 0, .bool true, .int .i64 (-1)])).run Try.prog W = .ok (.bool true) W := fun W => run_eqR rw1 rw1 W
  have KS := Lib.hid kS
  have KA := Lib.hid kA
  have HLIT := Lib.hid hlit
  have HLITD := Lib.hid hlitd
  have C6 := Lib.hid c6
  have C7 := Lib.hid c7
  have C8 := Lib.hid c8
  have HRR := Lib.hid (And.intro rr6 (And.intro rq6 (And.intro hro hlb)))
  clear kS kA hlit hlitd c6 c7 c8 rr6 rq6 hro hlb
  go_wp2_with fail
  go_region_held3 (fun w' => (w'.cell? ⟨w2.heap.size, 0, none⟩ = some (.int .i64 4) ∧ w'.cell? ⟨w2.heap.size, 1, none⟩ = some (.int .i64 5) ∧ w'.cell? ⟨w2.heap.size + 1, 0, none⟩ = some (.int .i64 1) ∧ w'.cell? ⟨w2.heap.size + 1, 1, none⟩ = some (.int .i64 1) ∧ w'.cell? ⟨w2.heap.size + 1, 2, none⟩ = some (.int .u16 0) ∧ w'.cell? ⟨w2.heap.size + 1, 3, none⟩ = some (.int .u8 1) ∧ w'.cell? ⟨w2.heap.size + 1, 4, none⟩ = some (.int .u8 2) ∧ w'.cell? ⟨w2.heap.size + 1, 5, none⟩ = some (.int .u8 3) ∧ w'.cell? ⟨w2.heap.size + 1, 6, none⟩ = some (.int .u8 4) ∧ w'.cell? ⟨w2.heap.size + 1, 7, none⟩ = some (.bool false) ∧ w'.cell? ⟨w2.heap.size + 1, 8, none⟩ = some (.int .i64 0) ∧ w'.cell? ⟨w2.heap.size + 1, 9, none⟩ = some (.bool true) ∧ w'.cell? ⟨w2.heap.size + 1, 10, none⟩ = some (.int .i64 (-1)) ∧ w'.cell? ⟨lb, lo + 11, none⟩ = some (.int .i64 1) ∧ w'.cell? ⟨lb, lo + 12, none⟩ = some (.int .i64 1) ∧ w'.cell? ⟨lb, lo + 13, none⟩ = some (.int .u16 0) ∧ w'.cell? ⟨lb, lo + 14, none⟩ = some (.int .u8 1) ∧ w'.cell? ⟨lb, lo + 15, none⟩ = some (.int .u8 2) ∧ w'.cell? ⟨lb, lo + 16, none⟩ = some (.int .u8 3) ∧ w'.cell? ⟨lb, lo + 17, none⟩ = some (.int .u8 4) ∧ w'.cell? ⟨lb, lo + 18, none⟩ = some (.bool false) ∧ w'.cell? ⟨lb, lo + 19, none⟩ = some (.int .i64 0) ∧ w'.cell? ⟨lb, lo + 20, none⟩ = some (.bool true) ∧ w'.cell? ⟨lb, lo + 21, none⟩ = some (.int .i64 (-1)) ∧ Below w6.heap.size w6 w')) (first | assumption | exact KS.out _ kD | exact KS.out _ (KA.out _ _ (Below.refl _ _)) | exact KS.out _ (KA.out _ _ (Below.refl _ _)).drew | exact KS.out _ (KA.out _ _ kD) | exact KS.out _ z7 | exact KS.out _ z8 | exact KS.out _ z9) (first
    | (go_at_call 20; (with_reducible refine (C6.out _ _ _ _ _ (g6.below (by first | exact KA.out _ _ (Below.refl _ _) | exact (KA.out _ _ (Below.refl _ _)).drew | exact KA.out _ _ kD)) (by first | exact HLIT.out _ | exact HLITD.out _)).mono ?_); rintro e w7 ⟨rfl, k7⟩; have z7 : Below w6.heap.size w6 w7 := by first | exact below_more (KA.out _ _ (Below.refl _ _)) k7 (Nat.le_refl _) | exact below_more (KA.out _ _ (Below.refl _ _)).drew k7 (Nat.le_refl _) | exact below_more (KA.out _ _ kD) k7 (Nat.le_refl _))
    | (rw [if_pos (by rfl)]; go_simp; go_at_call 18; (with_reducible refine (C7.out _).mono ?_); rintro e w8 ⟨rfl, k8⟩; have z8 := below_more z7 k8 (Nat.le_refl _))
    | (rw [if_pos (by rfl)]; go_simp; go_at_call 18; (with_reducible refine (C8.out _).mono ?_); rintro e w9 ⟨rfl, k9⟩; have z9 := below_more z8 k9 (Nat.le_refl _)))
  go_wp2
  go_ret
  exact ⟨rfl, below_more b6 z9 (Nat.le_refl _)⟩
end Go.Proofs.Ytlohogcddelekaa
