/- The walk of the statement WordPacks: it returns true, for every input. -/
import Derived.Test.YtafdaeenjjokiaaDoorRe
namespace Go.Proofs.YtafdaeenjjokiaaDoor
open Go.RowKit Go.Deep

/-! ### Each call with one word for all its ways -/
def upL (ws : List Int) (u : Nat) : List Int := if unpackOK ws u then unpackL ws u else []
theorem upL_length (ws : List Int) (u : Nat) : (upL ws u).length ≤ ws.length := by unfold upL; split <;> simp [unpackL_length]
def GivesU (zs : List Int) (b : Bool) (w : World) (e : Ending) (w' : World) : Prop := ∃ A c, e = .returned (.tuple #[.slice A zs.length c, .bool b]) ∧ Ints .i64 w'.heap.size w' A zs ∧ Below w.heap.size w w'

theorem unpack_u (A : Option Addr) (ws : List Int) (c u l : Nat) (hll : ws.length = l) (hl : l ≤ 100) (hu : u < 18446744073709551616) (w : World) (h : Ints .i64 w.heap.size w A ws) :
    Calls Tryd.prog 29 #[.slice A l c, .int .u64 u] w (GivesU (upL ws u) (unpackOK ws u) w) := by
  subst hll
  cases ho : unpackOK ws u with
  | true =>
    refine (unpack_yes A ws c u hu w h ho).mono ?_
    rintro e w' ⟨rfl, hi, hb⟩
    refine ⟨some ⟨w.heap.size, 0, none⟩, ws.length, ?_, ?_, hb⟩
    · simp [upL, ho, unpackL_length]
    · simpa [upL, ho] using hi
  | false =>
    refine (unpack_no A ws c u hu w h (by omega) ho).mono ?_
    rintro e w' ⟨rfl, hb⟩
    exact ⟨none, 0, by simp [upL, ho], by simp only [upL, ho]; exact Ints.nil, hb⟩
theorem refUnpack_u (A : Option Addr) (ws : List Int) (c u l : Nat) (hll : ws.length = l) (hl : l ≤ 100) (hu : u < 18446744073709551616) (w : World) (h : Ints .i64 w.heap.size w A ws) :
    Calls Tryd.prog 30 #[.slice A l c, .int .u64 u] w (GivesU (upL ws u) (unpackOK ws u) w) := by
  cases ho : okW ws with
  | false =>
    refine (refUnpack_bad A ws c l u hll hl ho w h).mono ?_
    rintro e w' ⟨rfl, rfl⟩
    have hq : unpackOK ws u = false := by simp [unpackOK, ho]
    exact ⟨none, 0, by simp [upL, hq], by simp only [upL, hq]; exact Ints.nil, Below.refl _ _⟩
  | true =>
    refine (refUnpack_good A ws c l u hu hll hl ho w h).mono ?_
    rintro e w' (⟨hz, A', c', rfl, hi, hb⟩ | ⟨hz, rfl, hb⟩)
    · have hq : unpackOK ws u = true := by simp [unpackOK, ho, hz]
      refine ⟨A', c', ?_, ?_, hb⟩
      · simp [upL, hq, unpackL_length]
      · simpa [upL, hq] using hi
    · have hq : unpackOK ws u = false := by simp [unpackOK, ho, hz]
      exact ⟨none, 0, by simp [upL, hq], by simp only [upL, hq]; exact Ints.nil, hb⟩

def byR (u : Nat) (n : Int) : List Int := if 0 ≤ n ∧ n ≤ 8 ∧ u / 2 ^ (8 * n.toNat) = 0 then bytesL u n.toNat else []
theorem byR_length (u : Nat) (n : Int) : (byR u n).length ≤ 8 := by unfold byR; split <;> simp [bytesL_length]; omega
theorem bytes_u (u : Nat) (hu : u < 18446744073709551616) (n : Int) (w : World) :
    Calls Tryd.prog 35 #[.int .u64 u, .int .i64 n] w (GivesInts .u8 (byR u n) w) := by
  by_cases h : 0 ≤ n ∧ n ≤ 8 ∧ u / 2 ^ (8 * n.toNat) = 0
  · have e : byR u n = bytesL u n.toNat := by unfold byR; rw [if_pos h]
    rw [e]
    obtain ⟨m, rfl⟩ : ∃ m : Nat, n = m := ⟨n.toNat, by omega⟩
    rw [Int.toNat_natCast] at h ⊢
    refine (bytes_list u hu m (by omega) h.2.2 w).mono ?_
    rintro e w' ⟨rfl, hi, _, _, hb⟩
    exact ⟨_, m, by rw [bytesL_length], hi, hb⟩
  · have e : byR u n = [] := by unfold byR; rw [if_neg h]
    rw [e]
    refine (bytes_no u hu n (by omega) w).mono ?_
    rintro e w' ⟨rfl, rfl⟩
    exact ⟨none, 0, rfl, Ints.nil, Below.refl _ _⟩
theorem refBytes_u (u : Nat) (hu : u < 18446744073709551616) (n : Int) (w : World) :
    Calls Tryd.prog 36 #[.int .u64 u, .int .i64 n] w (GivesInts .u8 (byR u n) w) := by
  by_cases h0 : 0 ≤ n ∧ n ≤ 8
  · obtain ⟨m, rfl⟩ : ∃ m : Nat, n = m := ⟨n.toNat, by omega⟩
    refine (refBytes_in u m hu (by omega) w).mono ?_
    rintro e w' (⟨hz, hg⟩ | ⟨hz, rfl, hb⟩)
    · have e : byR u m = bytesL u m := by unfold byR; rw [Int.toNat_natCast, if_pos ⟨h0.1, h0.2, hz⟩]
      rw [e]; exact hg
    · have e : byR u m = [] := by unfold byR; rw [Int.toNat_natCast, if_neg (fun hh => hz hh.2.2)]
      rw [e]
      exact ⟨none, 0, rfl, Ints.nil, hb⟩
  · have e : byR u n = [] := by unfold byR; rw [if_neg (fun hh => h0 ⟨hh.1, hh.2.1⟩)]
    rw [e]
    refine (refBytes_out u n (by omega) w).mono ?_
    rintro e w' ⟨rfl, rfl⟩
    exact ⟨none, 0, rfl, Ints.nil, Below.refl _ _⟩

def fromV (bs : List Int) : Nat := if bs.length ≤ 8 then fromN bs else 0
theorem from_u (A : Option Addr) (bs : List Int) (c l : Nat) (hll : bs.length = l) (hl : l ≤ 100) (hz : isBytes bs) (w : World) (h : Ints .u8 w.heap.size w A bs) :
    Calls Tryd.prog 31 #[.slice A l c] w fun e w' => e = .returned (.tuple #[.int .u64 (fromV bs), .bool (decide (l ≤ 8))]) ∧ Below w.heap.size w w' := by
  subst hll
  unfold fromV
  by_cases h8 : bs.length ≤ 8
  · rw [if_pos h8, decide_eq_true h8]
    exact from_yes A c bs hz h8 w h
  · rw [if_neg h8, decide_eq_false h8]
    refine (from_no A c bs.length (by omega) (by omega) w).mono ?_
    rintro e w' ⟨rfl, rfl⟩
    exact ⟨rfl, Below.refl _ _⟩
theorem refFrom_u (A : Option Addr) (bs : List Int) (c l : Nat) (hll : bs.length = l) (hl : l ≤ 100) (hz : isBytes bs) (w : World) (h : Ints .u8 w.heap.size w A bs) :
    Calls Tryd.prog 32 #[.slice A l c] w fun e w' => e = .returned (.tuple #[.int .u64 (fromV bs), .bool (decide (l ≤ 8))]) ∧ Below w.heap.size w w' := by
  subst hll
  unfold fromV
  by_cases h8 : bs.length ≤ 8
  · rw [if_pos h8, decide_eq_true h8]
    refine (refFrom_core A bs c bs.length _ rfl hz h8 w h (Lib.hid rfl)).mono ?_
    rintro e w' ⟨rfl, rfl⟩
    exact ⟨rfl, Below.refl _ _⟩
  · rw [if_neg h8, decide_eq_false h8]
    refine (refFrom_no A c bs.length (by omega) (by omega) w).mono ?_
    rintro e w' ⟨rfl, rfl⟩
    exact ⟨rfl, Below.refl _ _⟩

theorem refPack_u (ws vs : List Int) (hv : i64s vs) (x : Nat) (b : Bool) (hx : (if packOK ws vs then packN ws vs else 0) = x) (hb : packOK ws vs = b) (A A' : Option Addr) (cap cap' l l' : Nat) (hll : ws.length = l) (hll' : vs.length = l') (hl : l ≤ 100) (hl' : l' ≤ 100) (w : World) (hI : Ints .i64 w.heap.size w A ws) (hI' : Ints .i64 w.heap.size w A' vs) :
    Calls Tryd.prog 28 #[.slice A l cap, .slice A' l' cap'] w fun e W' => e = .returned (.tuple #[.int .u64 x, .bool b]) ∧ Below w.heap.size w W' := by
  subst hx hb
  cases ho : okW ws with
  | false =>
    have hq : packOK ws vs = false := by simp [packOK, ho]
    refine (refPack_bad A A' ws cap cap' l l' hll hl ho w hI).mono ?_
    rintro e w' ⟨rfl, rfl⟩
    rw [hq]; exact ⟨rfl, Below.refl _ _⟩
  | true =>
    by_cases he : l = l'
    · subst he
      refine (refPack_good A A' ws vs cap cap' l hll hll' hl ho hv w hI hI').mono ?_
      rintro e w' ⟨rfl, hd⟩
      have hq : packOK ws vs = okVs ws vs := by simp [packOK, ho]
      rw [hq]; exact ⟨rfl, hd.below _ (Nat.le_refl _)⟩
    · have hq : packOK ws vs = false := by
        have : okVs ws vs = false := by
          rw [Bool.eq_false_iff]; intro hh; exact he (by rw [← hll, ← hll', okVs_length ws vs hh])
        simp [packOK, this]
      refine (refPack_len A A' ws cap cap' l l' hll hl hl' ho he w hI).mono ?_
      rintro e w' ⟨rfl, rfl⟩
      rw [hq]; exact ⟨rfl, Below.refl _ _⟩

theorem sameB_u (xs : List Int) (hl : xs.length ≤ 8) (W : World) (A A' : Option Addr) (c c' : Nat) (h : Ints .u8 W.heap.size W A xs) (h' : Ints .u8 W.heap.size W A' xs) :
    Calls Tryd.prog 34 #[.slice A xs.length c, .slice A' xs.length c'] W fun e w' => e = .returned (.bool true) ∧ Dr W w' := by
  refine (sameBytes_any A A' xs xs c c' W.heap.size W h h' (by omega) (by omega)).mono ?_
  rintro e w' ⟨rfl, hd⟩
  exact ⟨by simp, hd⟩

set_option maxHeartbeats 1000000 in
theorem wordPacks_long (A A' A4 : Option Addr) (l l' l4 c c' c4 u : Nat) (n : Int) (hl : 100 < l ∨ (l ≤ 100 ∧ 100 < l') ∨ (l ≤ 100 ∧ l' ≤ 100 ∧ 100 < l4)) (w : World) (hT : Tab w) :
    Calls Tryd.prog 4 #[.slice A l c, .slice A' l' c', .int .u64 u, .int .i64 n, .slice A4 l4 c4] w fun e w' => e = .returned (.bool true) ∧ Below w.heap.size w w' := by
  have hA := Lib.hid (alive_any w hT)
  clear hT
  rcases hl with h1 | ⟨h1, h2⟩ | ⟨h1, h2, h3⟩
  · have g1 := len_no l h1
    go_enter Tryd.func4, Tryd.ntmps4
    go_wp2_with fail
    refine hA.out.mono ?_
    clear hA
    rintro e w1 ⟨rfl, hb⟩
    go_wp2
    go_ret
    exact ⟨rfl, hb⟩
  · have g1 := len_ok l h1
    have g2 := len_no l' h2
    go_enter Tryd.func4, Tryd.ntmps4
    go_wp2_with fail
    refine hA.out.mono ?_
    clear hA
    rintro e w1 ⟨rfl, hb⟩
    go_wp2
    go_ret
    exact ⟨rfl, hb⟩
  · have g1 := len_ok l h1
    have g2 := len_ok l' h2
    have g3 := len_no l4 h3
    go_enter Tryd.func4, Tryd.ntmps4
    go_wp2_with fail
    refine hA.out.mono ?_
    clear hA
    rintro e w1 ⟨rfl, hb⟩
    go_wp2
    go_ret
    exact ⟨rfl, hb⟩

set_option maxRecDepth 100000 in
set_option maxHeartbeats 4000000 in
theorem wordPacks_in (A A' A4 : Option Addr) (ws vs bs : List Int) (l l' l4 c c' c4 u : Nat) (n : Int) (hll : ws.length = l) (hll' : vs.length = l') (hll4 : bs.length = l4) (hl : l ≤ 100) (hl' : l' ≤ 100) (hl4 : l4 ≤ 100)
    (hc : A = none → c = 0) (hc' : A' = none → c' = 0) (hu : u < 18446744073709551616) (hv : i64s vs) (hbs : isBytes bs) (w : World) (hT : Tab w) (h : Ints .i64 w.heap.size w A ws) (h' : Ints .i64 w.heap.size w A' vs) (h4 : Ints .u8 w.heap.size w A4 bs) :
    Calls Tryd.prog 4 #[.slice A l c, .slice A' l' c', .int .u64 u, .int .i64 n, .slice A4 l4 c4] w fun e w' => e = .returned (.bool true) ∧ Below w.heap.size w w' := by
  have hA := Lib.hid (alive_any w hT)
  have g1 := len_ok l hl
  have g2 := len_ok l' hl'
  have g3 := len_ok l4 hl4
  have c1 := Lib.hid (copyInts_any A ws c l hll hc (by omega))
  have c2 := Lib.hid (copyInts_any A' vs c' l' hll' hc' (by omega))
  obtain ⟨x, hx⟩ : ∃ x, (if packOK ws vs then packN ws vs else 0) = x := ⟨_, rfl⟩
  obtain ⟨b, hb⟩ : ∃ b, packOK ws vs = b := ⟨_, rfl⟩
  have c3 := Lib.hid (fun A A' c c' => pack_gives ws vs hv (by omega) x b hx hb A A' c c' l l' hll hll')
  have c4' := Lib.hid (refPack_u ws vs hv x b hx hb A A' c c' l l' hll hll' hl hl')
  have c5 := Lib.hid (fun A c => unpack_u A ws c u l hll hl hu)
  have c6 := Lib.hid (refUnpack_u A ws c u l hll hl hu)
  have c7 := Lib.hid (from_u A4 bs c4 l4 hll4 hl4 hbs)
  have c8 := Lib.hid (refFrom_u A4 bs c4 l4 hll4 hl4 hbs)
  have hul := upL_length ws u
  have c9 := Lib.hid (fun W A A' c c' h h' => same_gives (upL ws u) (by omega) (upL ws u).length (upL ws u).length rfl rfl W A A' c c' h h')
  have c10 := Lib.hid (bytes_u u hu n)
  have c11 := Lib.hid (refBytes_u u hu n)
  have c12 := Lib.hid (sameB_u (byR u n) (byR_length u n))
  have c13 := Lib.hid (fun W A0 c0 h h' => same_gives ws (by omega) l l hll hll W A0 A c0 c h h')
  have c14 := Lib.hid (fun W A0 c0 h h' => same_gives vs (by omega) l' l' hll' hll' W A0 A' c0 c' h h')
  generalize upL ws u = ul at *
  generalize unpackOK ws u = ub at *
  generalize byR u n = bl at *
  generalize fromV bs = fv at *
  have hbb : (b == b) = true := by simp
  have huu : (ub == ub) = true := by simp
  have hdd : (decide (l4 ≤ 8) == decide (l4 ≤ 8)) = true := by simp
  generalize decide (l4 ≤ 8) = fb at *
  have HL := Lib.hid hll
  have HL' := Lib.hid hll'
  clear hx hb hll hll' hll4 hul hT hc hc'
  go_enter Tryd.func4, Tryd.ntmps4
  go_wp2_with fail
  refine hA.out.mono ?_
  clear hA
  rintro e w1 ⟨rfl, b1⟩
  go_wp2_with fail
  refine (c1.out w1 ((h.below b1 (Nat.le_refl _)).more b1.size)).mono ?_
  rintro e w2 ⟨B0, k0, rfl, i2, q2⟩
  rw [HL.out]
  have b2 := below_more b1 q2 (Nat.le_refl _)
  clear b1 q2
  go_wp2_with fail
  refine (c2.out w2 ((h'.below b2 (Nat.le_refl _)).more b2.size)).mono ?_
  rintro e w3 ⟨B1, k1, rfl, i3', q3⟩
  rw [HL'.out]
  have b3 := below_more b2 q3 (Nat.le_refl _)
  have i3 := (i2.below q3 (Nat.le_refl _)).more q3.size
  clear b2 q3 i2
  go_wp2_with fail
  refine (c3.out B0 B1 k0 k1 w3 i3 i3').mono ?_
  rintro e w4 ⟨rfl, q4⟩
  have b4 := below_more b3 q4 (Nat.le_refl _)
  have i4 := (i3.below q4 (Nat.le_refl _)).more q4.size
  have i4' := (i3'.below q4 (Nat.le_refl _)).more q4.size
  clear b3 q4 i3 i3'
  go_wp2_with fail
  refine (c4'.out w4 ((h.below b4 (Nat.le_refl _)).more b4.size) ((h'.below b4 (Nat.le_refl _)).more b4.size)).mono ?_
  rintro e w5 ⟨rfl, q5⟩
  have b5 := below_more b4 q5 (Nat.le_refl _)
  have i5 := (i4.below q5 (Nat.le_refl _)).more q5.size
  have i5' := (i4'.below q5 (Nat.le_refl _)).more q5.size
  clear b4 q5 i4 i4'
  go_wp2_with fail
  refine (c5.out B0 k0 w5 i5).mono ?_
  rintro e w6 ⟨B2, k2, rfl, j6, q6⟩
  have b6 := below_more b5 q6 (Nat.le_refl _)
  have i6 := (i5.below q6 (Nat.le_refl _)).more q6.size
  have i6' := (i5'.below q6 (Nat.le_refl _)).more q6.size
  clear b5 q6 i5 i5'
  go_wp2_with fail
  refine (c6.out w6 ((h.below b6 (Nat.le_refl _)).more b6.size)).mono ?_
  rintro e w7 ⟨B3, k3, rfl, j7', q7⟩
  have b7 := below_more b6 q7 (Nat.le_refl _)
  have i7 := (i6.below q7 (Nat.le_refl _)).more q7.size
  have i7' := (i6'.below q7 (Nat.le_refl _)).more q7.size
  have j7 := (j6.below q7 (Nat.le_refl _)).more q7.size
  clear b6 q7 i6 i6' j6
  go_wp2_with fail
  refine (c7.out w7 ((h4.below b7 (Nat.le_refl _)).more b7.size)).mono ?_
  rintro e w8 ⟨rfl, q8⟩
  have b8 := below_more b7 q8 (Nat.le_refl _)
  have i8 := (i7.below q8 (Nat.le_refl _)).more q8.size
  have i8' := (i7'.below q8 (Nat.le_refl _)).more q8.size
  have j8 := (j7.below q8 (Nat.le_refl _)).more q8.size
  have j8' := (j7'.below q8 (Nat.le_refl _)).more q8.size
  clear b7 q8 i7 i7' j7 j7'
  go_wp2_with fail
  refine (c8.out w8 ((h4.below b8 (Nat.le_refl _)).more b8.size)).mono ?_
  rintro e w9 ⟨rfl, q9⟩
  have b9 := below_more b8 q9 (Nat.le_refl _)
  have i9 := (i8.below q9 (Nat.le_refl _)).more q9.size
  have i9' := (i8'.below q9 (Nat.le_refl _)).more q9.size
  have j9 := (j8.below q9 (Nat.le_refl _)).more q9.size
  have j9' := (j8'.below q9 (Nat.le_refl _)).more q9.size
  clear b8 q9 i8 i8' j8 j8'
  go_wp2_with fail
  refine (c9.out w9 _ _ _ _ j9 j9').mono ?_
  rintro e w10 ⟨rfl, d10⟩
  have q10 := d10.below _ (Nat.le_refl _)
  have b10 := below_more b9 q10 (Nat.le_refl _)
  have i10 := (i9.below q10 (Nat.le_refl _)).more q10.size
  have i10' := (i9'.below q10 (Nat.le_refl _)).more q10.size
  clear b9 q10 d10 i9 i9' j9 j9'
  go_wp2_with fail
  refine (c10.out w10).mono ?_
  rintro e w11 ⟨B4, k4, rfl, m11, q11⟩
  have b11 := below_more b10 q11 (Nat.le_refl _)
  have i11 := (i10.below q11 (Nat.le_refl _)).more q11.size
  have i11' := (i10'.below q11 (Nat.le_refl _)).more q11.size
  clear b10 q11 i10 i10'
  go_wp2_with fail
  refine (c11.out w11).mono ?_
  rintro e w12 ⟨B5, k5, rfl, m12', q12⟩
  have b12 := below_more b11 q12 (Nat.le_refl _)
  have i12 := (i11.below q12 (Nat.le_refl _)).more q12.size
  have i12' := (i11'.below q12 (Nat.le_refl _)).more q12.size
  have m12 := (m11.below q12 (Nat.le_refl _)).more q12.size
  clear b11 q12 i11 i11' m11
  go_wp2_with fail
  refine (c12.out w12 _ _ _ _ m12 m12').mono ?_
  rintro e w13 ⟨rfl, d13⟩
  have q13 := d13.below _ (Nat.le_refl _)
  have b13 := below_more b12 q13 (Nat.le_refl _)
  have i13 := (i12.below q13 (Nat.le_refl _)).more q13.size
  have i13' := (i12'.below q13 (Nat.le_refl _)).more q13.size
  clear b12 q13 d13 i12 i12' m12 m12'
  go_wp2_with fail
  refine (c13.out w13 _ _ i13 ((h.below b13 (Nat.le_refl _)).more b13.size)).mono ?_
  rintro e w14 ⟨rfl, d14⟩
  have q14 := d14.below _ (Nat.le_refl _)
  have b14 := below_more b13 q14 (Nat.le_refl _)
  have i14' := (i13'.below q14 (Nat.le_refl _)).more q14.size
  clear b13 q14 d14 i13 i13'
  go_wp2_with fail
  refine (c14.out w14 _ _ i14' ((h'.below b14 (Nat.le_refl _)).more b14.size)).mono ?_
  rintro e w15 ⟨rfl, d15⟩
  have q15 := d15.below _ (Nat.le_refl _)
  have b15 := below_more b14 q15 (Nat.le_refl _)
  clear b14 q15 d15 i14'
  go_wp2
  go_ret
  exact ⟨rfl, b15⟩

theorem wordPacks_any (A A' A4 : Option Addr) (ws vs bs : List Int) (l l' l4 c c' c4 u : Nat) (n : Int) (hll : ws.length = l) (hll' : vs.length = l') (hll4 : bs.length = l4)
    (hc : A = none → c = 0) (hc' : A' = none → c' = 0) (hu : u < 18446744073709551616) (hv : i64s vs) (hbs : isBytes bs) (w : World) (hT : Tab w) (h : Ints .i64 w.heap.size w A ws) (h' : Ints .i64 w.heap.size w A' vs) (h4 : Ints .u8 w.heap.size w A4 bs) :
    Calls Tryd.prog 4 #[.slice A l c, .slice A' l' c', .int .u64 u, .int .i64 n, .slice A4 l4 c4] w fun e w' => e = .returned (.bool true) ∧ Below w.heap.size w w' := by
  by_cases hb : l ≤ 100 ∧ l' ≤ 100 ∧ l4 ≤ 100
  · exact wordPacks_in A A' A4 ws vs bs l l' l4 c c' c4 u n hll hll' hll4 hb.1 hb.2.1 hb.2.2 hc hc' hu hv hbs w hT h h' h4
  · exact wordPacks_long A A' A4 l l' l4 c c' c4 u n (by omega) w hT
end Go.Proofs.YtafdaeenjjokiaaDoor
