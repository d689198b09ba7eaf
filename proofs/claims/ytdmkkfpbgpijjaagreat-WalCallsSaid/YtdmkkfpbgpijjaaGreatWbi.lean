/- The document's own log (concordatref05): read. -/
import Derived.Test.YtdmkkfpbgpijjaaGreatWbh
namespace Go.Proofs.YtdmkkfpbgpijjaaGreat
open Go.RowKit Go.Deep
set_option linter.unusedVariables false

theorem tail_zero (z : List Int) (hl : z.length = 32) (fk : Nat) (h : fk ≤ 16) : ((z.drop (9 + fk)).take (16 - fk) == zeros (16 - fk)) = true ↔ ∀ j, 9 + fk ≤ j → j < 25 → z[j]?.getD 0 = 0 := by
  rw [beq_iff_eq]
  constructor
  · intro e j h1 h2
    have e2 : ((z.drop (9 + fk)).take (16 - fk))[j - (9 + fk)]? = (zeros (16 - fk))[j - (9 + fk)]? := by rw [e]
    rw [List.getElem?_take, if_pos (by omega), List.getElem?_drop, show 9 + fk + (j - (9 + fk)) = j by omega] at e2
    rw [e2]
    unfold zeros
    rw [List.getElem?_replicate]
    split <;> rfl
  · intro e
    apply List.ext_getElem
    · simp [zeros]; omega
    · intro i h1 h2
      have h3 : i < 16 - fk := by simpa [zeros] using h2
      rw [List.getElem_take, List.getElem_drop]
      have := e (9 + fk + i) (by omega) (by omega)
      rw [List.getElem?_eq_getElem (by omega)] at this
      simp only [Option.getD_some] at this
      rw [this]
      simp [zeros]
theorem nums_eq {zs : List Int} (hl : zs.length = 32) (hz : isBytes zs) : (fromN (zs.take 4) = fromN (zs.drop 28)) ↔ (zs.take 4 == zs.drop 28) = true := by
  rw [beq_iff_eq]
  constructor
  · exact fromN_inj _ _ (hz.take 4) (hz.drop 28) (by rw [List.length_take, List.length_drop]; omega)
  · intro e; rw [e]
theorem open_part {zs : List Int} (hl : zs.length = 32) (h : openOK (zs.take 28) = true) : openL (zs.take 28) = zs.take 25 := by
  unfold openL
  rw [h, if_pos rfl, List.length_take, hl, List.take_take]
  rfl
/-- What read answers of no log's sector. -/
theorem owns_newJ {B : Nat} {w : World} {A : Option Addr} {l c : Nat} {zs : List Int} (h : Owns B w (.slice A l c) zs) : ∀ a, A = some a → B ≤ a.block := by
  intro a e
  rcases h.2 with ⟨e2, _⟩ | ⟨g, cap, cur, e2, hb, _⟩
  · rw [e] at e2; cases e2
  · rw [e] at e2; cases e2; exact hb
def OpenSaysN (xs : List Int) (w : World) (e : Ending) (w' : World) : Prop := ∃ A c, e = .returned (.tuple #[.slice A xs.length c, .bool true]) ∧ Good A c xs w' ∧ Below w.heap.size w w' ∧ ∀ a, A = some a → w.heap.size ≤ a.block
set_option maxRecDepth 100000 in
set_option maxHeartbeats 1000000 in
theorem refOpen_yesN (A : Option Addr) (zs : List Int) (c k : Nat) (hll : zs.length = k + 3) (hz : isBytes zs) (hl : k + 3 ≤ 2100) (ho : (sealL (zs.take k) == zs) = true) (w : World) (g : Good A c zs w) :
    Calls Tryz.prog 63 #[.slice A (k + 3) c] w (OpenSaysN (zs.take k) w) := by
  have hkc : k + 3 ≤ c := by have := g.2.1; omega
  obtain ⟨b, off, rfl⟩ := g.some (by omega)
  have hlt : (zs.take k).length = k := by rw [List.length_take]; omega
  have gt := g.take k
  have hzt := hz.take k
  have c1 := Lib.hid (fun W => refSeal (some ⟨b, off, none⟩) (zs.take k) _ c k hlt hzt (by omega) rfl W)
  have hsl : (sealL (zs.take k)).length = k + 3 := by rw [sealL_length, hlt]
  have c2 := Lib.hid (fun A2 c2 W => sameB A2 (some ⟨b, off, none⟩) (sealL (zs.take k)) zs c2 c (k + 3) (k + 3) true hsl hll (by omega) (by omega) ho W)
  have c3 := Lib.hid (fun W => copyB (some ⟨b, off, none⟩) (zs.take k) c k hlt (by omega) W)
  clear ho hll hz hzt
  have hlt := Lib.hid hlt
  generalize zs.take k = xs at *
  have i0 : (0 : Int) ≤ (k : Int) := by omega
  have i1 : (k : Int) ≤ (c : Int) := by omega
  have i2 : ((k + 3 : Nat) : Int) - 3 = (k : Int) := by omega
  go_enter Tryz.func63, Tryz.ntmps63
  go_wp2_with fail
  refine (c1.out w gt).mono ?_
  rintro e w1 ⟨v1, rfl, o1, k1⟩
  obtain ⟨A1, c1', rfl, g1⟩ := o1.good
  have gz := g.below k1
  have gx := gt.below k1
  clear o1 g gt c1
  rw [hsl]
  go_wp2_with fail
  refine (c2.out A1 c1' w1 g1 gz).mono ?_
  rintro e w2 ⟨rfl, k2⟩
  have b2 := below_more k1 k2 (Nat.le_refl _)
  have gx2 := gx.below k2
  clear c2 k1 k2 g1 gz gx
  go_wp2_with fail
  refine (c3.out w2 gx2).mono ?_
  rintro e w3 ⟨v3, rfl, o3, k3⟩
  obtain ⟨A3, c3', rfl, g3⟩ := o3.good
  have b3 := below_more b2 k3 (Nat.le_refl _)
  have hfr := Lib.hid (fun a e => Nat.le_trans b2.size (owns_newJ o3 a e))
  clear c3 k3 o3 b2 gx2
  go_wp2
  go_ret2
  exact ⟨A3, c3', by rw [hlt.out]; rfl, g3, b3, hfr.out⟩
theorem refOpenN (A : Option Addr) (zs xs : List Int) (c k : Nat) (hll : zs.length = k + 3) (hz : isBytes zs) (hl : k + 3 ≤ 2100) (ho : openOK zs = true) (hx : openL zs = xs) (w : World) (g : Good A c zs w) :
    Calls Tryz.prog 63 #[.slice A (k + 3) c] w (OpenSaysN xs w) := by
  have h3 : 3 ≤ k + 3 := by omega
  have e := openN_eq zs
  unfold openN at e
  rw [hll, decide_eq_true h3, Bool.true_and, show k + 3 - 3 = k by omega, ho] at e
  unfold openL at hx
  rw [if_pos ho, hll, show k + 3 - 3 = k by omega] at hx
  subst hx
  exact refOpen_yesN A zs c k hll hz hl e w g
def ReadNo (w : World) (e : Ending) (w' : World) : Prop := e = .returned (.tuple #[.int .i64 0, .int .i64 0, .slice none 0 0, .bool false]) ∧ Below w.heap.size w w'
def ReadYes (s : Sec) (w : World) (e : Ending) (w' : World) : Prop := ∃ A c, e = .returned (.tuple #[.int .i64 (s.n : Int), .int .i64 (s.first : Int), .slice A s.data.length c, .bool s.beg]) ∧ Good A c s.data w' ∧ Below w.heap.size w w' ∧ ∀ a, A = some a → w.heap.size ≤ a.block
set_option maxRecDepth 100000 in
set_option maxHeartbeats 4000000 in
theorem refRead_num (b off c : Nat) (zs : List Int) (hl : zs.length = 32) (hz : isBytes zs) (hne : ¬ fromN (zs.take 4) = fromN (zs.drop 28)) (w : World) (g : Good (some ⟨b, off, none⟩) c zs w) :
    Calls Tryz.prog 36 #[.slice (some ⟨b, off, none⟩) 32 c] w (ReadNo w) := by
  obtain ⟨p, hp⟩ : ∃ p, fromN (zs.take 4) = p := ⟨_, rfl⟩
  obtain ⟨q, hq⟩ : ∃ q, fromN (zs.drop 28) = q := ⟨_, rfl⟩
  have F1 : ∀ W, Good (some ⟨b, off, none⟩) c zs W → Calls Tryz.prog 62 #[.slice (some ⟨b, off, none⟩) 4 c] W fun e w' => e = .returned (.int .i64 (p : Int)) ∧ Below W.heap.size W w' := fun W h => refNum _ c p (zs.take 4) (by rw [List.length_take]; omega) (hz.take 4) hp W (h.take 4)
  have F2 : ∀ W, Good (some ⟨b, off, none⟩) c zs W → Calls Tryz.prog 62 #[.slice (some ⟨b, off + 28, none⟩) 4 (c - 28)] W fun e w' => e = .returned (.int .i64 (q : Int)) ∧ Below W.heap.size W w' := fun W h => refNum _ (c - 28) q (zs.drop 28) (by rw [List.length_drop]; omega) (hz.drop 28) hq W (h.drop 28 (by omega))
  have hc : 32 ≤ c := by have := g.2.1; omega
  have hpq : ((p : Int) != (q : Int)) = true := by rw [hp, hq] at hne; simp; omega
  have i0 : (28 : Int) ≤ (32 : Int) := by omega
  have i1 : ¬ c = 28 := by omega
  have i2 : (4 : Int) ≤ (c : Int) := by omega
  have i3 : 4 ≤ c := by omega
  have i4 : (28 : Int) ≤ (c : Int) := by omega
  have i5 : 28 ≤ c := by omega
  have kd : Below w.heap.size w w.drew := (Below.refl _ _).drew
  clear hq hne
  go_enter Tryz.func36, Tryz.ntmps36
  go_wp2_with fail
  go_region_held3 (fun w' => Below w.heap.size w w') (first | assumption | exact kd) (first
    | (go_at_call 62; (with_reducible refine (F1 _ (g.below (by assumption))).mono ?_); rintro e w1 ⟨rfl, k1⟩; have z1 : Below w.heap.size w w1 := kd.trans k1)
    | (go_at_call 62; (with_reducible refine (F2 _ (g.below (by assumption))).mono ?_); rintro e w2 ⟨rfl, k2⟩; have z2 : Below w.heap.size w w2 := below_more z1 k2 (Nat.le_refl _)))
  clear F1 F2 k1 k2 z1 kd i0 i1 i2 i3
  go_wp2
  refine bodyPost_ret (v := .tuple #[.int .i64 0, .int .i64 0, .slice none 0 0, .bool false]) ?_ rfl ⟨rfl, z2⟩
  · simp [results, Tryz.results36, go_sem]
set_option maxRecDepth 100000 in
set_option maxHeartbeats 4000000 in
theorem refRead_sum (b off c : Nat) (zs : List Int) (hl : zs.length = 32) (hz : isBytes zs) (hne : fromN (zs.take 4) = fromN (zs.drop 28)) (ho : openOK (zs.take 28) = false) (w : World) (g : Good (some ⟨b, off, none⟩) c zs w) :
    Calls Tryz.prog 36 #[.slice (some ⟨b, off, none⟩) 32 c] w (ReadNo w) := by
  obtain ⟨p, hp⟩ : ∃ p, fromN (zs.take 4) = p := ⟨_, rfl⟩
  obtain ⟨q, hq⟩ : ∃ q, fromN (zs.drop 28) = q := ⟨_, rfl⟩
  have F1 : ∀ W, Good (some ⟨b, off, none⟩) c zs W → Calls Tryz.prog 62 #[.slice (some ⟨b, off, none⟩) 4 c] W fun e w' => e = .returned (.int .i64 (p : Int)) ∧ Below W.heap.size W w' := fun W h => refNum _ c p (zs.take 4) (by rw [List.length_take]; omega) (hz.take 4) hp W (h.take 4)
  have F2 : ∀ W, Good (some ⟨b, off, none⟩) c zs W → Calls Tryz.prog 62 #[.slice (some ⟨b, off + 28, none⟩) 4 (c - 28)] W fun e w' => e = .returned (.int .i64 (q : Int)) ∧ Below W.heap.size W w' := fun W h => refNum _ (c - 28) q (zs.drop 28) (by rw [List.length_drop]; omega) (hz.drop 28) hq W (h.drop 28 (by omega))
  have hc : 32 ≤ c := by have := g.2.1; omega
  have F3 : ∀ W, Good (some ⟨b, off, none⟩) c zs W → Calls Tryz.prog 63 #[.slice (some ⟨b, off, none⟩) 28 c] W fun e w' => ∃ A' c', e = .returned (.tuple #[.slice A' 0 c', .bool false]) ∧ Good A' c' [] w' ∧ Below W.heap.size W w' := fun W h => by
    refine (refOpen _ (zs.take 28) [] c 28 false (by rw [List.length_take]; omega) (hz.take 28) (by omega) ho (openL_no ho) W (h.take 28)).mono ?_
    rintro e w' ⟨A', c', rfl, g', k'⟩
    exact ⟨A', c', by rfl, g', k'⟩
  have hpq : ((p : Int) != (q : Int)) = false := by rw [hp, hq] at hne; simp; omega
  have i0 : (28 : Int) ≤ (32 : Int) := by omega
  have i1 : ¬ c = 28 := by omega
  have i2 : (4 : Int) ≤ (c : Int) := by omega
  have i3 : 4 ≤ c := by omega
  have i4 : (28 : Int) ≤ (c : Int) := by omega
  have i5 : 28 ≤ c := by omega
  have kd : Below w.heap.size w w.drew := (Below.refl _ _).drew
  clear hq hne
  go_enter Tryz.func36, Tryz.ntmps36
  go_wp2_with fail
  go_region_held3 (fun w' => Below w.heap.size w w') (first | assumption | exact kd) (first
    | (go_at_call 62; (with_reducible refine (F1 _ (g.below (by assumption))).mono ?_); rintro e w1 ⟨rfl, k1⟩; have z1 : Below w.heap.size w w1 := kd.trans k1)
    | (go_at_call 62; (with_reducible refine (F2 _ (g.below (by assumption))).mono ?_); rintro e w2 ⟨rfl, k2⟩; have z2 : Below w.heap.size w w2 := below_more z1 k2 (Nat.le_refl _)))
  clear F1 F2 k1 k2 z1 kd i0 i1 i2 i3
  go_wp2_with fail
  refine (F3 _ (g.below z2)).mono ?_
  rintro e w3 ⟨A3, c3, rfl, g3, k3⟩
  have z3 := below_more z2 k3 (Nat.le_refl _)
  clear F3 g3 k3 z2
  go_wp2
  refine bodyPost_ret (v := .tuple #[.int .i64 0, .int .i64 0, .slice none 0 0, .bool false]) ?_ rfl ⟨rfl, z3⟩
  · simp [results, Tryz.results36, go_sem]
set_option maxRecDepth 100000 in
set_option maxHeartbeats 4000000 in
theorem refRead_big (b off c : Nat) (zs : List Int) (hl : zs.length = 32) (hz : isBytes zs) (hne : fromN (zs.take 4) = fromN (zs.drop 28)) (ho : openOK (zs.take 28) = true) (hbig : 16 < flagOf zs % 128) (w : World) (g : Good (some ⟨b, off, none⟩) c zs w) :
    Calls Tryz.prog 36 #[.slice (some ⟨b, off, none⟩) 32 c] w (ReadNo w) := by
  obtain ⟨p, hp⟩ : ∃ p, fromN (zs.take 4) = p := ⟨_, rfl⟩
  obtain ⟨q, hq⟩ : ∃ q, fromN (zs.drop 28) = q := ⟨_, rfl⟩
  have F1 : ∀ W, Good (some ⟨b, off, none⟩) c zs W → Calls Tryz.prog 62 #[.slice (some ⟨b, off, none⟩) 4 c] W fun e w' => e = .returned (.int .i64 (p : Int)) ∧ Below W.heap.size W w' := fun W h => refNum _ c p (zs.take 4) (by rw [List.length_take]; omega) (hz.take 4) hp W (h.take 4)
  have F2 : ∀ W, Good (some ⟨b, off, none⟩) c zs W → Calls Tryz.prog 62 #[.slice (some ⟨b, off + 28, none⟩) 4 (c - 28)] W fun e w' => e = .returned (.int .i64 (q : Int)) ∧ Below W.heap.size W w' := fun W h => refNum _ (c - 28) q (zs.drop 28) (by rw [List.length_drop]; omega) (hz.drop 28) hq W (h.drop 28 (by omega))
  have hc : 32 ≤ c := by have := g.2.1; omega
  obtain ⟨xs, hxs⟩ : ∃ xs, openL (zs.take 28) = xs := ⟨_, rfl⟩
  have hxz : xs = zs.take 25 := by rw [← hxs]; exact open_part hl ho
  have hx25 : xs.length = 25 := by rw [hxz, List.length_take]; omega
  have F3 : ∀ W, Good (some ⟨b, off, none⟩) c zs W → Calls Tryz.prog 63 #[.slice (some ⟨b, off, none⟩) 28 c] W fun e w' => ∃ A' c', e = .returned (.tuple #[.slice A' 25 c', .bool true]) ∧ Good A' c' xs w' ∧ Below W.heap.size W w' := fun W h => by
    refine (refOpen _ (zs.take 28) xs c 28 true (by rw [List.length_take]; omega) (hz.take 28) (by omega) ho hxs W (h.take 28)).mono ?_
    rintro e w' ⟨A', c', rfl, g', k'⟩
    exact ⟨A', c', by rw [hx25], g', k'⟩
  obtain ⟨f, hf⟩ : ∃ f, flagOf zs = f := ⟨_, rfl⟩
  have hb8 := isBytes_at zs hz 8
  have hf8 : zs[8]?.getD 0 = (f : Int) := by rw [← hf]; unfold flagOf; omega
  have hf256 : f < 256 := by omega
  have hx8 : xs[8]?.getD 0 = (f : Int) := by rw [hxz, List.getElem?_take, if_pos (by omega)]; exact hf8
  have hpq : ((p : Int) != (q : Int)) = false := by rw [hp, hq] at hne; simp; omega
  have i0 : (28 : Int) ≤ (32 : Int) := by omega
  have i1 : ¬ c = 28 := by omega
  have i2 : (4 : Int) ≤ (c : Int) := by omega
  have i3 : 4 ≤ c := by omega
  have i4 : (28 : Int) ≤ (c : Int) := by omega
  have i5 : 28 ≤ c := by omega
  have kd : Below w.heap.size w w.drew := (Below.refl _ _).drew
  clear hq hne
  go_enter Tryz.func36, Tryz.ntmps36
  go_wp2_with fail
  go_region_held3 (fun w' => Below w.heap.size w w') (first | assumption | exact kd) (first
    | (go_at_call 62; (with_reducible refine (F1 _ (g.below (by assumption))).mono ?_); rintro e w1 ⟨rfl, k1⟩; have z1 : Below w.heap.size w w1 := kd.trans k1)
    | (go_at_call 62; (with_reducible refine (F2 _ (g.below (by assumption))).mono ?_); rintro e w2 ⟨rfl, k2⟩; have z2 : Below w.heap.size w w2 := below_more z1 k2 (Nat.le_refl _)))
  clear F1 F2 k1 k2 z1 kd i0 i1 i2 i3
  go_wp2_with fail
  refine (F3 _ (g.below z2)).mono ?_
  rintro e w3 ⟨A3, c3, rfl, g3, k3⟩
  have z3 := below_more z2 k3 (Nat.le_refl _)
  obtain ⟨xb, xo, rfl⟩ := g3.some (by omega)
  have x8 : w3.cell? ⟨xb, xo + 8, none⟩ = some (.int .u8 (f : Int)) := by
    obtain ⟨b', o', e', hbs, hcs⟩ := g3.1 (by omega)
    cases e'
    rw [hcs 8 (by omega), hx8]
  clear F3 k3 z2 hx8 hf8 hb8
  have dbig : decide ((16 : Int) < (f : Int) % 128) = true := by rw [hf] at hbig; simp; omega
  clear g3 hbig hf
  go_wp2
  refine bodyPost_ret (v := .tuple #[.int .i64 0, .int .i64 0, .slice none 0 0, .bool false]) ?_ rfl ⟨rfl, z3⟩
  · simp [results, Tryz.results36, go_sem]
set_option maxRecDepth 100000 in
set_option maxHeartbeats 4000000 in
theorem refRead_tno (b off c : Nat) (zs : List Int) (hl : zs.length = 32) (hz : isBytes zs) (hne : fromN (zs.take 4) = fromN (zs.drop 28)) (ho : openOK (zs.take 28) = true) (hsm : flagOf zs % 128 ≤ 16) (ht : ((zs.drop (9 + flagOf zs % 128)).take (16 - flagOf zs % 128) == zeros (16 - flagOf zs % 128)) = false) (w : World) (g : Good (some ⟨b, off, none⟩) c zs w) :
    Calls Tryz.prog 36 #[.slice (some ⟨b, off, none⟩) 32 c] w (ReadNo w) := by
  obtain ⟨p, hp⟩ : ∃ p, fromN (zs.take 4) = p := ⟨_, rfl⟩
  obtain ⟨q, hq⟩ : ∃ q, fromN (zs.drop 28) = q := ⟨_, rfl⟩
  have F1 : ∀ W, Good (some ⟨b, off, none⟩) c zs W → Calls Tryz.prog 62 #[.slice (some ⟨b, off, none⟩) 4 c] W fun e w' => e = .returned (.int .i64 (p : Int)) ∧ Below W.heap.size W w' := fun W h => refNum _ c p (zs.take 4) (by rw [List.length_take]; omega) (hz.take 4) hp W (h.take 4)
  have F2 : ∀ W, Good (some ⟨b, off, none⟩) c zs W → Calls Tryz.prog 62 #[.slice (some ⟨b, off + 28, none⟩) 4 (c - 28)] W fun e w' => e = .returned (.int .i64 (q : Int)) ∧ Below W.heap.size W w' := fun W h => refNum _ (c - 28) q (zs.drop 28) (by rw [List.length_drop]; omega) (hz.drop 28) hq W (h.drop 28 (by omega))
  have hc : 32 ≤ c := by have := g.2.1; omega
  obtain ⟨xs, hxs⟩ : ∃ xs, openL (zs.take 28) = xs := ⟨_, rfl⟩
  have hxz : xs = zs.take 25 := by rw [← hxs]; exact open_part hl ho
  have hx25 : xs.length = 25 := by rw [hxz, List.length_take]; omega
  have F3 : ∀ W, Good (some ⟨b, off, none⟩) c zs W → Calls Tryz.prog 63 #[.slice (some ⟨b, off, none⟩) 28 c] W fun e w' => ∃ A' c', e = .returned (.tuple #[.slice A' 25 c', .bool true]) ∧ Good A' c' xs w' ∧ Below W.heap.size W w' := fun W h => by
    refine (refOpen _ (zs.take 28) xs c 28 true (by rw [List.length_take]; omega) (hz.take 28) (by omega) ho hxs W (h.take 28)).mono ?_
    rintro e w' ⟨A', c', rfl, g', k'⟩
    exact ⟨A', c', by rw [hx25], g', k'⟩
  obtain ⟨f, hf⟩ : ∃ f, flagOf zs = f := ⟨_, rfl⟩
  have hb8 := isBytes_at zs hz 8
  have hf8 : zs[8]?.getD 0 = (f : Int) := by rw [← hf]; unfold flagOf; omega
  have hf256 : f < 256 := by omega
  have hx8 : xs[8]?.getD 0 = (f : Int) := by rw [hxz, List.getElem?_take, if_pos (by omega)]; exact hf8
  have hpq : ((p : Int) != (q : Int)) = false := by rw [hp, hq] at hne; simp; omega
  have i0 : (28 : Int) ≤ (32 : Int) := by omega
  have i1 : ¬ c = 28 := by omega
  have i2 : (4 : Int) ≤ (c : Int) := by omega
  have i3 : 4 ≤ c := by omega
  have i4 : (28 : Int) ≤ (c : Int) := by omega
  have i5 : 28 ≤ c := by omega
  have kd : Below w.heap.size w w.drew := (Below.refl _ _).drew
  clear hq hne
  go_enter Tryz.func36, Tryz.ntmps36
  go_wp2_with fail
  go_region_held3 (fun w' => Below w.heap.size w w') (first | assumption | exact kd) (first
    | (go_at_call 62; (with_reducible refine (F1 _ (g.below (by assumption))).mono ?_); rintro e w1 ⟨rfl, k1⟩; have z1 : Below w.heap.size w w1 := kd.trans k1)
    | (go_at_call 62; (with_reducible refine (F2 _ (g.below (by assumption))).mono ?_); rintro e w2 ⟨rfl, k2⟩; have z2 : Below w.heap.size w w2 := below_more z1 k2 (Nat.le_refl _)))
  clear F1 F2 k1 k2 z1 kd i0 i1 i2 i3
  go_wp2_with fail
  refine (F3 _ (g.below z2)).mono ?_
  rintro e w3 ⟨A3, c3, rfl, g3, k3⟩
  have z3 := below_more z2 k3 (Nat.le_refl _)
  obtain ⟨xb, xo, rfl⟩ := g3.some (by omega)
  have x8 : w3.cell? ⟨xb, xo + 8, none⟩ = some (.int .u8 (f : Int)) := by
    obtain ⟨b', o', e', hbs, hcs⟩ := g3.1 (by omega)
    cases e'
    rw [hcs 8 (by omega), hx8]
  clear F3 k3 z2 hx8 hf8 hb8
  have dbig : decide ((16 : Int) < (f : Int) % 128) = false := by rw [hf] at hsm; simp; omega
  obtain ⟨fk, hfk⟩ : ∃ fk, f % 128 = fk := ⟨_, rfl⟩
  rw [hf, hfk] at hsm ht
  have hkk : (9 : Int) + (f : Int) % 128 = ((9 + fk : Nat) : Int) := by omega
  obtain ⟨kk, hk9⟩ : ∃ kk, 9 + fk = kk := ⟨_, rfl⟩
  rw [hk9] at hkk
  have HT := Lib.hid ht
  have hkk25 : kk ≤ 25 := by omega
  have xc : ∀ j, j < 25 → w3.cell? ⟨xb, xo + j, none⟩ = some (.int .u8 (xs[j]?.getD 0)) := by
    obtain ⟨b', o', e', hbs, hcs⟩ := g3.1 (by omega)
    cases e'
    exact fun j hj => hcs j (by omega)
  have XC := Lib.hid xc
  have HXZ : Hid (∀ j, j < 25 → xs[j]?.getD 0 = zs[j]?.getD 0) := Lib.hid (fun j hj => by rw [hxz, List.getElem?_take, if_pos hj])
  have HK9 := Lib.hid hk9
  have HL := Lib.hid hl
  have HSM := Lib.hid hsm
  have G3 := Lib.hid g3
  clear xc ht hk9 hl g3 hxs
  go_wp2
  go_loopw [9] (fun i wr => ∃ j : Nat, kk ≤ j ∧ j ≤ 25 ∧ i = .int .i64 j ∧ Dr w3 wr ∧ ∀ t, kk ≤ t → t < j → zs[t]?.getD 0 = 0) (fun i _ => 25 - (intOf i).toNat)
  case atStart => exact ⟨kk, Nat.le_refl _, hkk25, rfl, Dr.refl _, fun t a b => by omega⟩
  case round =>
    obtain ⟨j, hj1, hj2, rfl, ⟨dn, rfl⟩, hall⟩ := hrel
    by_cases hlt : j < 25
    · have xj : w3.cell? ⟨xb, xo + j, none⟩ = some (.int .u8 (xs[j]?.getD 0)) := XC.out j hlt
      have exz := HXZ.out j hlt
      generalize xs[j]?.getD 0 = xv at *
      by_cases hx0 : xv = 0
      · have hxb : (xv != 0) = false := by simp [hx0]
        have HX0 := Lib.hid (exz.symm.trans hx0)
        have HALL := Lib.hid hall
        clear exz hall hx0
        go_wp2
        go_roundw
        case rel => exact ⟨j + 1, by omega, by omega, by go_num, ⟨_, rfl⟩, fun t a b => by
          rcases Nat.lt_or_ge t j with h | h
          · exact HALL.out t a h
          · obtain rfl : t = j := by omega
            exact HX0.out⟩
        case measure => simp [intOf]; omega
      · have hxb : (xv != 0) = true := by simpa using hx0
        have hb := Lib.hid (z3.trans ((below_drewN (Below.refl w3.heap.size w3) dn).mono z3.size))
        go_wp2
        refine bodyPost_ret (v := .tuple #[.int .i64 0, .int .i64 0, .slice none 0 0, .bool false]) ?_ rfl ⟨rfl, ?_⟩
        · simp [results, Tryz.results36, go_sem]
        · exact hb.out
    · obtain rfl : j = 25 := by omega
      exfalso
      have h1 := (tail_zero zs HL.out fk HSM.out).2 (fun t a b => hall t (by have := HK9.out; omega) b)
      rw [HT.out] at h1
      cases h1
set_option maxRecDepth 100000 in
set_option maxHeartbeats 4000000 in
theorem refRead_yes (b off c : Nat) (zs : List Int) (hl : zs.length = 32) (hz : isBytes zs) (hne : fromN (zs.take 4) = fromN (zs.drop 28)) (ho : openOK (zs.take 28) = true) (hsm : flagOf zs % 128 ≤ 16) (ht : ((zs.drop (9 + flagOf zs % 128)).take (16 - flagOf zs % 128) == zeros (16 - flagOf zs % 128)) = true) (w : World) (g : Good (some ⟨b, off, none⟩) c zs w) :
    Calls Tryz.prog 36 #[.slice (some ⟨b, off, none⟩) 32 c] w (ReadYes (secOf zs) w) := by
  obtain ⟨p, hp⟩ : ∃ p, fromN (zs.take 4) = p := ⟨_, rfl⟩
  obtain ⟨q, hq⟩ : ∃ q, fromN (zs.drop 28) = q := ⟨_, rfl⟩
  have F1 : ∀ W, Good (some ⟨b, off, none⟩) c zs W → Calls Tryz.prog 62 #[.slice (some ⟨b, off, none⟩) 4 c] W fun e w' => e = .returned (.int .i64 (p : Int)) ∧ Below W.heap.size W w' := fun W h => refNum _ c p (zs.take 4) (by rw [List.length_take]; omega) (hz.take 4) hp W (h.take 4)
  have F2 : ∀ W, Good (some ⟨b, off, none⟩) c zs W → Calls Tryz.prog 62 #[.slice (some ⟨b, off + 28, none⟩) 4 (c - 28)] W fun e w' => e = .returned (.int .i64 (q : Int)) ∧ Below W.heap.size W w' := fun W h => refNum _ (c - 28) q (zs.drop 28) (by rw [List.length_drop]; omega) (hz.drop 28) hq W (h.drop 28 (by omega))
  have hc : 32 ≤ c := by have := g.2.1; omega
  obtain ⟨xs, hxs⟩ : ∃ xs, openL (zs.take 28) = xs := ⟨_, rfl⟩
  have hxz : xs = zs.take 25 := by rw [← hxs]; exact open_part hl ho
  have hx25 : xs.length = 25 := by rw [hxz, List.length_take]; omega
  have F3 : ∀ W, Good (some ⟨b, off, none⟩) c zs W → Calls Tryz.prog 63 #[.slice (some ⟨b, off, none⟩) 28 c] W fun e w' => ∃ A' c', e = .returned (.tuple #[.slice A' 25 c', .bool true]) ∧ Good A' c' xs w' ∧ Below W.heap.size W w' ∧ ∀ a, A' = some a → W.heap.size ≤ a.block := fun W h => by
    refine (refOpenN _ (zs.take 28) xs c 25 (by rw [List.length_take]; omega) (hz.take 28) (by omega) ho hxs W (h.take 28)).mono ?_
    rintro e w' ⟨A', c', rfl, g', k', f'⟩
    exact ⟨A', c', by rw [hx25], g', k', f'⟩
  obtain ⟨f, hf⟩ : ∃ f, flagOf zs = f := ⟨_, rfl⟩
  have hb8 := isBytes_at zs hz 8
  have hf8 : zs[8]?.getD 0 = (f : Int) := by rw [← hf]; unfold flagOf; omega
  have hf256 : f < 256 := by omega
  have hx8 : xs[8]?.getD 0 = (f : Int) := by rw [hxz, List.getElem?_take, if_pos (by omega)]; exact hf8
  have hpq : ((p : Int) != (q : Int)) = false := by rw [hp, hq] at hne; simp; omega
  have i0 : (28 : Int) ≤ (32 : Int) := by omega
  have i1 : ¬ c = 28 := by omega
  have i2 : (4 : Int) ≤ (c : Int) := by omega
  have i3 : 4 ≤ c := by omega
  have i4 : (28 : Int) ≤ (c : Int) := by omega
  have i5 : 28 ≤ c := by omega
  have kd : Below w.heap.size w w.drew := (Below.refl _ _).drew
  clear hq hne
  go_enter Tryz.func36, Tryz.ntmps36
  go_wp2_with fail
  go_region_held3 (fun w' => Below w.heap.size w w') (first | assumption | exact kd) (first
    | (go_at_call 62; (with_reducible refine (F1 _ (g.below (by assumption))).mono ?_); rintro e w1 ⟨rfl, k1⟩; have z1 : Below w.heap.size w w1 := kd.trans k1)
    | (go_at_call 62; (with_reducible refine (F2 _ (g.below (by assumption))).mono ?_); rintro e w2 ⟨rfl, k2⟩; have z2 : Below w.heap.size w w2 := below_more z1 k2 (Nat.le_refl _)))
  clear F1 F2 k1 k2 z1 kd i0 i1 i2 i3
  go_wp2_with fail
  refine (F3 _ (g.below z2)).mono ?_
  rintro e w3 ⟨A3, c3, rfl, g3, k3, f3⟩
  have z3 := below_more z2 k3 (Nat.le_refl _)
  obtain ⟨xb, xo, rfl⟩ := g3.some (by omega)
  have hfr := Lib.hid (Nat.le_trans z2.size (f3 _ rfl))
  clear f3
  have x8 : w3.cell? ⟨xb, xo + 8, none⟩ = some (.int .u8 (f : Int)) := by
    obtain ⟨b', o', e', hbs, hcs⟩ := g3.1 (by omega)
    cases e'
    rw [hcs 8 (by omega), hx8]
  clear F3 k3 z2 hx8 hf8 hb8
  have dbig : decide ((16 : Int) < (f : Int) % 128) = false := by rw [hf] at hsm; simp; omega
  obtain ⟨fk, hfk⟩ : ∃ fk, f % 128 = fk := ⟨_, rfl⟩
  rw [hf, hfk] at hsm ht
  have hkk : (9 : Int) + (f : Int) % 128 = ((9 + fk : Nat) : Int) := by omega
  obtain ⟨kk, hk9⟩ : ∃ kk, 9 + fk = kk := ⟨_, rfl⟩
  rw [hk9] at hkk
  have HT := Lib.hid ht
  have hkk25 : kk ≤ 25 := by omega
  have xc : ∀ j, j < 25 → w3.cell? ⟨xb, xo + j, none⟩ = some (.int .u8 (xs[j]?.getD 0)) := by
    obtain ⟨b', o', e', hbs, hcs⟩ := g3.1 (by omega)
    cases e'
    exact fun j hj => hcs j (by omega)
  have XC := Lib.hid xc
  have HXZ : Hid (∀ j, j < 25 → xs[j]?.getD 0 = zs[j]?.getD 0) := Lib.hid (fun j hj => by rw [hxz, List.getElem?_take, if_pos hj])
  have HK9 := Lib.hid hk9
  have HL := Lib.hid hl
  have HSM := Lib.hid hsm
  have G3 := Lib.hid g3
  clear xc ht hk9 hl g3 hxs
  go_wp2
  go_loopw [9] (fun i wr => ∃ j : Nat, kk ≤ j ∧ j ≤ 25 ∧ i = .int .i64 j ∧ Dr w3 wr ∧ ∀ t, kk ≤ t → t < j → zs[t]?.getD 0 = 0) (fun i _ => 25 - (intOf i).toNat)
  case atStart => exact ⟨kk, Nat.le_refl _, hkk25, rfl, Dr.refl _, fun t a b => by omega⟩
  case round =>
    obtain ⟨j, hj1, hj2, rfl, ⟨dn, rfl⟩, hall⟩ := hrel
    by_cases hlt : j < 25
    · have xj : w3.cell? ⟨xb, xo + j, none⟩ = some (.int .u8 (xs[j]?.getD 0)) := XC.out j hlt
      have exz := HXZ.out j hlt
      generalize xs[j]?.getD 0 = xv at *
      by_cases hx0 : xv = 0
      · have hxb : (xv != 0) = false := by simp [hx0]
        have HX0 := Lib.hid (exz.symm.trans hx0)
        have HALL := Lib.hid hall
        clear exz hall hx0
        go_wp2
        go_roundw
        case rel => exact ⟨j + 1, by omega, by omega, by go_num, ⟨_, rfl⟩, fun t a b => by
          rcases Nat.lt_or_ge t j with h | h
          · exact HALL.out t a h
          · obtain rfl : t = j := by omega
            exact HX0.out⟩
        case measure => simp [intOf]; omega
      · have hxb : (xv != 0) = true := by simpa using hx0
        exfalso
        have h1 := (tail_zero zs HL.out fk HSM.out).1 HT.out j (by have := HK9.out; omega) hlt
        exact hx0 (exz.trans h1)
    · obtain rfl : j = 25 := by omega
      have gW : Good (some ⟨xb, xo, none⟩) c3 xs (w3.drewN dn) := G3.out.drewN dn
      have kW : Below w.heap.size w (w3.drewN dn) := z3.trans ((below_drewN (Below.refl w3.heap.size w3) dn).mono z3.size)
      have xW : (w3.drewN dn).cell? ⟨xb, xo + 8, none⟩ = some (.int .u8 (f : Int)) := x8
      have hb3 : xb < (w3.drewN dn).heap.size := World.block_lt_of_cell? _ _ xW
      obtain ⟨fi, hfi⟩ : ∃ fi, fromN ((zs.drop 4).take 4) = fi := ⟨_, rfl⟩
      have ex4 : xs.take 4 = zs.take 4 := by rw [hxz, List.take_take]; rfl
      have ex8 : (xs.drop 4).take 4 = (zs.drop 4).take 4 := by rw [hxz, List.drop_take, List.take_take]; rfl
      have ex9 : (xs.drop 9).take fk = (zs.drop 9).take fk := by
        have := HSM.out
        rw [hxz, List.drop_take, List.take_take, Nat.min_eq_left (by omega)]
      have hxb : isBytes xs := by rw [hxz]; exact hz.take 25
      have F4 : ∀ W, Below (w3.drewN dn).heap.size (w3.drewN dn) W → Calls Tryz.prog 62 #[.slice (some ⟨xb, xo, none⟩) 4 c3] W fun e w' => e = .returned (.int .i64 (p : Int)) ∧ Below W.heap.size W w' := fun W h => refNum _ c3 p (xs.take 4) (by rw [List.length_take]; omega) (hxb.take 4) (by rw [ex4]; exact hp) W ((gW.below h).take 4)
      have F5 : ∀ W, Below (w3.drewN dn).heap.size (w3.drewN dn) W → Calls Tryz.prog 62 #[.slice (some ⟨xb, xo + 4, none⟩) 4 (c3 - 4)] W fun e w' => e = .returned (.int .i64 (fi : Int)) ∧ Below W.heap.size W w' := fun W h => refNum _ (c3 - 4) fi ((xs.drop 4).take 4) (by rw [List.length_take, List.length_drop]; omega) ((hxb.drop 4).take 4) (by rw [ex8]; exact hfi) W (((gW.below h).drop 4 (by omega)).take 4)
      have hc3 : 25 ≤ c3 := by have := gW.2.1; omega
      have HPOST : Hid (∀ w', Below (w3.drewN dn).heap.size (w3.drewN dn) w' → ReadYes (secOf zs) w (.returned (.tuple #[.int .i64 (p : Int), .int .i64 (fi : Int), .slice (some ⟨xb, xo + 9, none⟩) fk (c3 - 9), .bool (decide (128 ≤ f))])) w') := Lib.hid (fun w' kk => by
        have hdl : ((zs.drop 9).take fk).length = fk := by
          have := HSM.out
          rw [List.length_take, List.length_drop, HL.out]; omega
        refine ⟨some ⟨xb, xo + 9, none⟩, c3 - 9, ?_, ?_, kW.trans (kk.mono kW.size), fun a e => by cases e; exact hfr.out⟩
        · unfold secOf
          dsimp only
          rw [hf, hfk, hdl, hp, hfi]
        · show Good _ _ ((zs.drop 9).take (flagOf zs % 128)) w'
          rw [hf, hfk, ← ex9]
          exact ((gW.below kk).drop 9 (by omega)).take fk)
      have hk9 := HK9.out
      have j1 : (9 : Int) ≤ (kk : Int) := by omega
      have j2 : (kk : Int) ≤ (c3 : Int) := by omega
      have j3 : 9 ≤ kk := by omega
      have j4 : kk ≤ c3 := by omega
      have j5 : (4 : Int) ≤ (c3 : Int) := by omega
      have j6 : 4 ≤ c3 := by omega
      have j7 : (8 : Int) ≤ (c3 : Int) := by omega
      have j8 : 8 ≤ c3 := by omega
      have j9 : ¬ c3 = 4 := by omega
      have j10 : ¬ c3 = 9 := by omega
      have j11 : kk - 9 = fk := by omega
      have j12 : decide ((128 : Int) ≤ (f : Int)) = decide (128 ≤ f) := by rw [decide_eq_decide]; omega
      have kd : Below (w3.drewN dn).heap.size (w3.drewN dn) (w3.drewN dn).drew := (Below.refl _ _).drew
      have kS : ∀ W, Below (w3.drewN dn).heap.size (w3.drewN dn) W → (W.cell? ⟨xb, xo + 8, none⟩ = some (.int .u8 (f : Int)) ∧ Below (w3.drewN dn).heap.size (w3.drewN dn) W) := fun W h => ⟨(h.cell (p := ⟨xb, xo + 8, none⟩) hb3).trans xW, h⟩
      have KS := Lib.hid kS
      clear kS gW kW hall hxb hfi hp hz ex4 ex8 ex9 hf hfk hxz XC HXZ HT HL HSM G3 HK9 z3 x8 hkk hk9 dbig ho hsm
      generalize w3.drewN dn = W0 at *
      go_wp2_with fail
      go_region_held3 (fun w' => (w'.cell? ⟨xb, xo + 8, none⟩ = some (.int .u8 (f : Int)) ∧ Below W0.heap.size W0 w')) (first | assumption | exact KS.out _ kd | exact KS.out _ y1 | exact KS.out _ y2) (first
        | (go_at_call 62; (with_reducible refine (F4 _ kd).mono ?_); rintro e w5 ⟨rfl, k5⟩; have y1 : Below W0.heap.size W0 w5 := kd.trans k5)
        | (go_at_call 62; (with_reducible refine (F5 _ y1).mono ?_); rintro e w6 ⟨rfl, k6⟩; have y2 : Below W0.heap.size W0 w6 := below_more y1 k6 (Nat.le_refl _)))
      go_wp2
      refine bodyPost_ret (v := .tuple #[.int .i64 (p : Int), .int .i64 (fi : Int), .slice (some ⟨xb, xo + 9, none⟩) fk (c3 - 9), .bool (decide (128 ≤ f))]) ?_ rfl (HPOST.out _ y2)
      simp [results, Tryz.results36, go_sem]
/-- The document's read, of every sector's bytes. -/
theorem refRead (A : Option Addr) (c : Nat) (zs : List Int) (hl : zs.length = 32) (hz : isBytes zs) (w : World) (g : Good A c zs w) :
    (∀ s, readS zs = some s → Calls Tryz.prog 36 #[.slice A 32 c] w (ReadYes s w)) ∧ (readS zs = none → Calls Tryz.prog 36 #[.slice A 32 c] w (ReadNo w)) := by
  obtain ⟨b, off, rfl⟩ := g.some (by omega)
  unfold readS isSec
  by_cases h1 : fromN (zs.take 4) = fromN (zs.drop 28)
  · have e1 := (nums_eq hl hz).1 h1
    cases h2 : openOK (zs.take 28) with
    | false => exact ⟨fun s hs => by simp at hs, fun _ => refRead_sum b off c zs hl hz h1 h2 w g⟩
    | true =>
      by_cases h3 : flagOf zs % 128 ≤ 16
      · cases h4 : ((zs.drop (9 + flagOf zs % 128)).take (16 - flagOf zs % 128) == zeros (16 - flagOf zs % 128)) with
        | false => exact ⟨fun s hs => by simp at hs, fun _ => refRead_tno b off c zs hl hz h1 h2 h3 h4 w g⟩
        | true =>
          refine ⟨fun s hs => ?_, fun hs => by simp [hl, e1, h3] at hs⟩
          simp [hl, e1, h3] at hs
          rw [← hs]
          exact refRead_yes b off c zs hl hz h1 h2 h3 h4 w g
      · exact ⟨fun s hs => by simp [h3] at hs, fun _ => refRead_big b off c zs hl hz h1 h2 (by omega) w g⟩
  · have e1 : (zs.take 4 == zs.drop 28) = false := by
      rw [Bool.eq_false_iff]
      exact fun e => h1 ((nums_eq hl hz).2 e)
    exact ⟨fun s hs => by simp [e1] at hs, fun _ => refRead_num b off c zs hl hz h1 w g⟩
end Go.Proofs.YtdmkkfpbgpijjaaGreat
