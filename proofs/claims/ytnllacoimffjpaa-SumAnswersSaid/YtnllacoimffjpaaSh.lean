/- The document's own answers for layer 2, gone on: Sum, Three, Seal, Open. -/
import Derived.Test.YtnllacoimffjpaaSg
namespace Go.Proofs.Ytnllacoimffjpaa
open Go.RowKit Go.Deep

theorem refMore (A : Option Addr) (zs : List Int) (c l q : Nat) (n : Int) (hll : zs.length = l) (hz : isBytes zs) (hl : l ≤ 2100) (hq : crc (low24 n) (bytesOf zs) = q) (w : World) (g : Good A c zs w) :
    Calls Try.prog 15 #[.int .i64 n, .slice A l c] w fun e w' => e = .returned (.int .i64 (q : Int)) ∧ w = w' :=
  refMore_core A zs c l (low24 n) q n (low24_tmod n) (low24_lt n) (Lib.hid hll) hz hl (Lib.hid hq) w g.1

set_option maxHeartbeats 400000 in
theorem refSum (A : Option Addr) (zs : List Int) (c l q : Nat) (hll : zs.length = l) (hz : isBytes zs) (hl : l ≤ 2100) (hq : sumB zs = q) (w : World) (g : Good A c zs w) :
    Calls Try.prog 13 #[.slice A l c] w fun e w' => e = .returned (.int .i64 (q : Int)) ∧ w = w' := by
  have h := Lib.hid (refMore A zs c l q 11994318 hll hz hl hq w g)
  clear hq hll hz
  go_enter Try.func13, Try.ntmps13
  go_wp2_with fail
  refine h.out.mono ?_
  rintro e w' ⟨rfl, rfl⟩
  go_wp2
  go_ret
  exact ⟨rfl, rfl⟩

theorem lit3 (w : World) (a b c : Int) (ts : List Int) (h : [a, b, c] = ts) : GivesB ts w (.returned (.slice (some ⟨w.heap.size, 0, none⟩) 3 3)) (w.alloc (.cells #[.int .u8 a, .int .u8 b, .int .u8 c] 5)) := by
  subst h
  exact ⟨_, rfl, World.ownsRow_lit w #[.int .u8 a, .int .u8 b, .int .u8 c] 3 (Nat.le_refl _) (by simp [maxLen]) rfl, (Below.refl _ _).alloc (Nat.le_refl _) _⟩

set_option maxHeartbeats 1000000 in
theorem refThree (n : Int) (ts : List Int) (ht : threeL (low24 n) = ts) (w : World) :
    Calls Try.prog 18 #[.int .i64 n] w (GivesB ts w) := by
  have hn := low24_tmod n
  have hs0 := low24_lt n
  generalize low24 n = s0 at *
  have h3 : [(s0 : Int) / 65536, (s0 : Int) / 256 % 256, (s0 : Int) % 256] = ts := by
    rw [← ht]; unfold threeL
    rw [show s0 / 65536 % 256 = s0 / 65536 by omega]; simp
  have h3 := Lib.hid h3
  clear ht
  rcases hn with hn | hn
  all_goals
    go_enter Try.func18, Try.ntmps18
    go_wp2
    go_ret
    exact lit3 w _ _ _ ts h3.out

set_option maxHeartbeats 1000000 in
theorem refSeal (A : Option Addr) (zs ss : List Int) (c l : Nat) (hll : zs.length = l) (hz : isBytes zs) (hl : l ≤ 2100) (hs : sealL zs = ss) (w : World) (g : Good A c zs w) :
    Calls Try.prog 21 #[.slice A l c] w (GivesB ss w) := by
  obtain ⟨q, hq⟩ : ∃ q, sumB zs = q := ⟨_, rfl⟩
  have hql : q < 16777216 := by rw [← hq]; exact sumB_lt hz
  have hs2 : zs ++ threeL q = ss := by rw [← hs, ← hq]; rfl
  have c1 := Lib.hid (copyB A zs c l hll hl w g)
  have c2 := Lib.hid (fun W => refSum A zs c l q hll hz hl hq W)
  have c3 := Lib.hid (fun W => refThree q (threeL q) (by rw [low24_of q hql]) W)
  have hs2 := Lib.hid hs2
  clear hs hq hz
  go_enter Try.func21, Try.ntmps21
  go_wp2_with fail
  refine c1.out.mono ?_
  rintro e w1 ⟨v1, rfl, o1, k1⟩
  go_wp2_with fail
  refine (c2.out w1 (g.below k1)).mono ?_
  rintro e w' ⟨rfl, rfl⟩
  go_wp2_with fail
  refine (c3.out w1).mono ?_
  rintro e w2 ⟨v2, rfl, o2, k2⟩
  obtain ⟨A2, c2', rfl, g2⟩ := o2.good
  have o1' := o1.below k2
  have k2' := below_more k1 k2 (Nat.le_refl _)
  clear c1 c2 c3 o1 o2 k1 k2
  go_wp2_with (at_builtin; refine wpList_appendB rfl _ _ rfl w.heap.size v1 zs rfl o1' A2 (threeL q) _ c2' rfl rfl g2 (by rw [threeL_length]; omega) k2'.size w k2' ?_; intro v3 w3 o3 k3)
  rw [hs2.out] at o3
  clear o1' g2 k2' hs2
  go_ret
  exact ⟨v3, rfl, o3, k3⟩

def openN (zs : List Int) : Bool := decide (3 ≤ zs.length) && (sealL (zs.take (zs.length - 3)) == zs)
theorem openN_eq (zs : List Int) : openN zs = openOK zs := by
  unfold openN openOK
  by_cases h : 3 ≤ zs.length
  · rw [decide_eq_true h, Bool.true_and, Bool.true_and, Bool.eq_iff_iff, beq_iff_eq, beq_iff_eq]
    unfold sealL
    constructor
    · intro e
      have := congrArg (List.drop (zs.length - 3)) e
      rw [List.drop_append_of_le_length (by rw [List.length_take]; omega)] at this
      rw [List.drop_eq_nil_of_le (by rw [List.length_take]; omega), List.nil_append] at this
      exact this.symm
    · intro e
      rw [← e, List.take_append_drop]
  · rw [decide_eq_false h, Bool.false_and, Bool.false_and]

set_option maxHeartbeats 1000000 in
theorem refOpen_few (A : Option Addr) (c l : Nat) (hl : l < 3) (w : World) :
    Calls Try.prog 11 #[.slice A l c] w fun e w' => e = .returned (.tuple #[.slice none 0 0, .bool false]) ∧ w = w' := by
  go_enter Try.func11, Try.ntmps11
  go_wp2
  go_ret2
  exact ⟨rfl, rfl⟩

set_option maxHeartbeats 1000000 in
theorem refOpen_no (A : Option Addr) (zs : List Int) (c k : Nat) (hll : zs.length = k + 3) (hz : isBytes zs) (hl : k + 3 ≤ 2100) (ho : (sealL (zs.take k) == zs) = false) (w : World) (g : Good A c zs w) :
    Calls Try.prog 11 #[.slice A (k + 3) c] w (OpenSays [] false w) := by
  have hkc : k + 3 ≤ c := by have := g.2.1; omega
  obtain ⟨b, off, rfl⟩ := g.some (by omega)
  have hlt : (zs.take k).length = k := by rw [List.length_take]; omega
  have gt := g.take k
  have hzt := hz.take k
  have c1 := Lib.hid (fun W => refSeal (some ⟨b, off, none⟩) (zs.take k) _ c k hlt hzt (by omega) rfl W)
  have hsl : (sealL (zs.take k)).length = k + 3 := by rw [sealL_length, hlt]
  have c2 := Lib.hid (fun A2 c2 W => sameB A2 (some ⟨b, off, none⟩) (sealL (zs.take k)) zs c2 c (k + 3) (k + 3) false hsl hll (by omega) (by omega) ho W)
  clear ho hll hz hzt hlt
  have i0 : (0 : Int) ≤ (k : Int) := by omega
  have i1 : (k : Int) ≤ (c : Int) := by omega
  have i2 : ((k + 3 : Nat) : Int) - 3 = (k : Int) := by omega
  go_enter Try.func11, Try.ntmps11
  go_wp2_with fail
  refine (c1.out w gt).mono ?_
  rintro e w1 ⟨v1, rfl, o1, k1⟩
  obtain ⟨A1, c1', rfl, g1⟩ := o1.good
  have gz := g.below k1
  clear o1 g gt c1
  rw [hsl]
  go_wp2_with fail
  refine (c2.out A1 c1' w1 g1 gz).mono ?_
  rintro e w2 ⟨rfl, k2⟩
  have b2 := below_more k1 k2 (Nat.le_refl _)
  clear c2 k1 k2 g1 gz
  go_wp2
  go_ret2
  exact ⟨none, 0, rfl, Good.nil _, b2⟩

set_option maxHeartbeats 1000000 in
theorem refOpen_yes (A : Option Addr) (zs : List Int) (c k : Nat) (hll : zs.length = k + 3) (hz : isBytes zs) (hl : k + 3 ≤ 2100) (ho : (sealL (zs.take k) == zs) = true) (w : World) (g : Good A c zs w) :
    Calls Try.prog 11 #[.slice A (k + 3) c] w (OpenSays (zs.take k) true w) := by
  have hkc : k + 3 ≤ c := by have := g.2.1; omega
  obtain ⟨b, off, rfl⟩ := g.some (by omega)
  have hlt : (zs.take k).length = k := by rw [List.length_take]; omega
  have gt := g.take k
  have hzt := hz.take k
  have c1 := Lib.hid (fun W => refSeal (some ⟨b, off, none⟩) (zs.take k) _ c k hlt hzt (by omega) rfl W)
  have hsl : (sealL (zs.take k)).length = k + 3 := by rw [sealL_length, hlt]
  have c2 := Lib.hid (fun A2 c2 W => sameB A2 (some ⟨b, off, none⟩) (sealL (zs.take k)) zs c2 c (k + 3) (k + 3) true hsl hll (by omega) (by omega) ho W)
  have c3 := Lib.hid (fun W => copyB (some ⟨b, off, none⟩) (zs.take k) c k hlt (by omega) W)
  clear ho hll hz hzt
  have hlt := Lib.hid hlt
  generalize zs.take k = xs at *
  have i0 : (0 : Int) ≤ (k : Int) := by omega
  have i1 : (k : Int) ≤ (c : Int) := by omega
  have i2 : ((k + 3 : Nat) : Int) - 3 = (k : Int) := by omega
  go_enter Try.func11, Try.ntmps11
  go_wp2_with fail
  refine (c1.out w gt).mono ?_
  rintro e w1 ⟨v1, rfl, o1, k1⟩
  obtain ⟨A1, c1', rfl, g1⟩ := o1.good
  have gz := g.below k1
  have gx := gt.below k1
  clear o1 g gt c1
  rw [hsl]
  go_wp2_with fail
  refine (c2.out A1 c1' w1 g1 gz).mono ?_
  rintro e w2 ⟨rfl, k2⟩
  have b2 := below_more k1 k2 (Nat.le_refl _)
  have gx2 := gx.below k2
  clear c2 k1 k2 g1 gz gx
  go_wp2_with fail
  refine (c3.out w2 gx2).mono ?_
  rintro e w3 ⟨v3, rfl, o3, k3⟩
  obtain ⟨A3, c3', rfl, g3⟩ := o3.good
  have b3 := below_more b2 k3 (Nat.le_refl _)
  clear c3 k3 o3 b2 gx2
  go_wp2
  go_ret2
  exact ⟨A3, c3', by rw [hlt.out]; rfl, g3, b3⟩

theorem refOpen (A : Option Addr) (zs xs : List Int) (c l : Nat) (o : Bool) (hll : zs.length = l) (hz : isBytes zs) (hl : l ≤ 2100) (ho : openOK zs = o) (hx : openL zs = xs) (w : World) (g : Good A c zs w) :
    Calls Try.prog 11 #[.slice A l c] w (OpenSays xs o w) := by
  by_cases h3 : 3 ≤ l
  · obtain ⟨k, rfl⟩ : ∃ k, l = k + 3 := ⟨l - 3, by omega⟩
    have e := openN_eq zs
    unfold openN at e
    rw [hll, decide_eq_true h3, Bool.true_and, show k + 3 - 3 = k by omega, ho] at e
    cases o with
    | false =>
      rw [openL_no ho] at hx
      subst hx
      exact refOpen_no A zs c k hll hz hl e w g
    | true =>
      unfold openL at hx
      rw [if_pos ho, hll, show k + 3 - 3 = k by omega] at hx
      subst hx
      exact refOpen_yes A zs c k hll hz hl e w g
  · have e := openN_eq zs
    unfold openN at e
    rw [hll, decide_eq_false h3, Bool.false_and, ho] at e
    subst e
    rw [openL_no ho] at hx
    subst hx
    refine (refOpen_few A c l (by omega) w).mono ?_
    rintro e w' ⟨rfl, rfl⟩
    exact ⟨none, 0, rfl, Good.nil _, Below.refl _ _⟩
end Go.Proofs.Ytnllacoimffjpaa
