/- Sets of categories as plain mathematics: a set is a number below 2^64, its categories its bits. Nothing of the program. -/
import Derived.Laws.BitsAllLaws
import Derived.Lib.TrailingZeros
import Derived.RowKit
namespace Go.Proofs.YthmccldkknhejaaDoor
open Go.RowKit

abbrev W64 : Nat := 18446744073709551616
/-- The categories of a set, rising. -/
def cats (s : Nat) : List Nat := (List.range 64).filter (fun i => s.testBit i)
/-- What is in one set, and not in another one. -/
def minus (a b : Nat) : Nat := a &&& (18446744073709551615 - b)
/-- The set of some categories. -/
def setOf (l : List Nat) : Nat := l.foldl (fun u c => u ||| 2 ^ c) 0

theorem bit_high {s i : Nat} (h : s < 18446744073709551616) (hi : 64 ≤ i) : s.testBit i = false :=
  Nat.testBit_lt_two_pow (Nat.lt_of_lt_of_le h (by
    have : 2 ^ 64 ≤ 2 ^ i := Nat.pow_le_pow_right (by decide) hi
    omega))
theorem set_ext {a b : Nat} (ha : a < 18446744073709551616) (hb : b < 18446744073709551616) (h : ∀ i, i < 64 → a.testBit i = b.testBit i) : a = b := by
  apply Nat.eq_of_testBit_eq
  intro i
  by_cases hi : i < 64
  · exact h i hi
  · rw [bit_high ha (by omega), bit_high hb (by omega)]
theorem one_lt {c : Nat} (h : c < 64) : 2 ^ c < 18446744073709551616 := by
  have : 2 ^ c < 2 ^ 64 := Nat.pow_lt_pow_right (by decide) h
  omega
theorem bit_not {b : Nat} (hb : b < 18446744073709551616) {i : Nat} (hi : i < 64) : (18446744073709551615 - b).testBit i = !b.testBit i := by
  have e : 18446744073709551615 - b = 2 ^ 64 - (b + 1) := by omega
  rw [e, Nat.testBit_two_pow_sub_succ (by omega)]
  simp [hi]
theorem minus_lt {a b : Nat} (ha : a < 18446744073709551616) : minus a b < 18446744073709551616 := Nat.lt_of_le_of_lt Nat.and_le_left ha
theorem bit_minus {a b : Nat} (ha : a < 18446744073709551616) (hb : b < 18446744073709551616) (i : Nat) : (minus a b).testBit i = (a.testBit i && !b.testBit i) := by
  unfold minus
  rw [Nat.testBit_and]
  by_cases hi : i < 64
  · rw [bit_not hb hi]
  · rw [bit_high ha (by omega)]; simp
theorem bit_one (c i : Nat) : (2 ^ c).testBit i = decide (c = i) := Nat.testBit_two_pow

theorem setOf_snoc (l : List Nat) (c : Nat) : setOf (l ++ [c]) = setOf l ||| 2 ^ c := by simp [setOf]
theorem foldl_or (l : List Nat) : ∀ u i, (l.foldl (fun u c => u ||| 2 ^ c) u).testBit i = (u.testBit i || decide (i ∈ l)) := by
  induction l with
  | nil => intro u i; simp
  | cons c l ih =>
    intro u i
    rw [List.foldl_cons, ih, Nat.testBit_or, bit_one]
    by_cases h : c = i
    · subst h; simp
    · have h' : ¬ (i = c) := fun e => h e.symm
      simp [h, h']
theorem bit_setOf (l : List Nat) (i : Nat) : (setOf l).testBit i = decide (i ∈ l) := by
  unfold setOf
  rw [foldl_or]; simp
theorem or_lt {a b : Nat} (ha : a < 18446744073709551616) (hb : b < 18446744073709551616) : a ||| b < 18446744073709551616 := by
  have : a ||| b < 2 ^ 64 := Nat.or_lt_two_pow (by omega) (by omega)
  omega
theorem setOf_lt (l : List Nat) (h : ∀ c ∈ l, c < 64) : setOf l < 18446744073709551616 := by
  have : ∀ (l : List Nat), (∀ c ∈ l, c < 64) → ∀ u, u < 18446744073709551616 → l.foldl (fun u c => u ||| 2 ^ c) u < 18446744073709551616 := by
    intro l
    induction l with
    | nil => intro _ u hu; exact hu
    | cons c l ih => intro h u hu; exact ih (fun x hx => h x (List.mem_cons_of_mem _ hx)) _ (or_lt hu (one_lt (h c (by simp))))
  exact this l h 0 (by decide)

theorem mem_cats {s i : Nat} : i ∈ cats s ↔ i < 64 ∧ s.testBit i = true := by simp [cats]
theorem cats_lt {s i : Nat} (h : i ∈ cats s) : i < 64 := (mem_cats.1 h).1
theorem cats_rising (s : Nat) : (cats s).Pairwise (· < ·) := List.pairwise_lt_range.filter _
theorem setOf_cats {s : Nat} (h : s < 18446744073709551616) : setOf (cats s) = s := by
  refine set_ext (setOf_lt _ (fun c hc => cats_lt hc)) h fun i hi => ?_
  rw [bit_setOf]
  cases e : s.testBit i <;> simp [mem_cats, hi, e]
/-- Rising lists with the same members are one. -/
theorem rising_ext : ∀ (l m : List Nat), l.Pairwise (· < ·) → m.Pairwise (· < ·) → (∀ i, i ∈ l ↔ i ∈ m) → l = m
  | [], [], _, _, _ => rfl
  | [], y :: m, _, _, h => by have := (h y).2 (by simp); simp at this
  | x :: l, [], _, _, h => by have := (h x).1 (by simp); simp at this
  | x :: l, y :: m, hl, hm, h => by
    obtain ⟨h1, h2⟩ := List.pairwise_cons.1 hl
    obtain ⟨h3, h4⟩ := List.pairwise_cons.1 hm
    have e : x = y := by
      have hx := (h x).1 (by simp)
      have hy := (h y).2 (by simp)
      rcases List.mem_cons.1 hx with e | hx
      · exact e
      rcases List.mem_cons.1 hy with e | hy
      · exact e.symm
      have := h3 x hx
      have := h1 y hy
      omega
    subst e
    congr 1
    refine rising_ext l m h2 h4 fun i => ⟨fun hi => ?_, fun hi => ?_⟩
    · rcases List.mem_cons.1 ((h i).1 (by simp [hi])) with e | hx
      · have := h1 i hi; omega
      · exact hx
    · rcases List.mem_cons.1 ((h i).2 (by simp [hi])) with e | hx
      · have := h3 i hi; omega
      · exact hx
theorem cats_of {s : Nat} {l : List Nat} (hl : l.Pairwise (· < ·)) (h : ∀ i, i ∈ l ↔ i < 64 ∧ s.testBit i = true) : cats s = l :=
  rising_ext _ _ (cats_rising s) hl fun i => by rw [mem_cats, h]
theorem cats_setOf {l : List Nat} (hl : l.Pairwise (· < ·)) (h : ∀ i ∈ l, i < 64) : cats (setOf l) = l :=
  cats_of hl fun i => by rw [bit_setOf]; simp; exact h i
theorem cats_nil {s : Nat} (h : s < 18446744073709551616) : cats s = [] ↔ s = 0 := by
  constructor
  · intro e; have := setOf_cats h; rw [e] at this; exact this.symm
  · rintro rfl; simp [cats]
theorem cats_inj {a b : Nat} (ha : a < 18446744073709551616) (hb : b < 18446744073709551616) (h : cats a = cats b) : a = b := by
  rw [← setOf_cats ha, h, setOf_cats hb]

/-! ### The lowest one -/
theorem ctz_bit {s : Nat} (h0 : s ≠ 0) (h : s < 18446744073709551616) : Lib.ctz 64 s < 64 ∧ s.testBit (Lib.ctz 64 s) = true ∧ ∀ i, i < Lib.ctz 64 s → s.testBit i = false := by
  have h1 : Lib.ctz 64 s = Lib.ctzFrom 64 s := by unfold Lib.ctz; rw [if_neg h0]
  obtain ⟨m, hm, hk⟩ := Lib.ctzFrom_spec 64 s (by omega) (by omega)
  rw [h1]
  generalize Lib.ctzFrom 64 s = k at *
  refine ⟨hk, ?_, fun i hi => ?_⟩
  · rw [hm, Nat.mul_comm, Nat.testBit_mul_two_pow]
    simp [Nat.testBit_zero]
  · rw [hm, Nat.mul_comm, Nat.testBit_mul_two_pow]
    have : ¬ (k ≤ i) := by omega
    simp [this]
theorem ctz_is {s k : Nat} (h : s < 18446744073709551616) (hk : s.testBit k = true) (hl : ∀ i, i < k → s.testBit i = false) : Lib.ctz 64 s = k := by
  have h0 : s ≠ 0 := by rintro rfl; simp at hk
  obtain ⟨_, h2, h3⟩ := ctz_bit h0 h
  rcases Nat.lt_trichotomy (Lib.ctz 64 s) k with hlt | he | hgt
  · rw [hl _ hlt] at h2; cases h2
  · exact he
  · rw [h3 _ hgt] at hk; cases hk
theorem ctz_0 : Lib.ctz 64 0 = 64 := rfl
theorem ctz_le (s : Nat) (h : s < 18446744073709551616) : Lib.ctz 64 s ≤ 64 := by
  by_cases h0 : s = 0
  · subst h0; exact Nat.le_refl _
  · have := (ctz_bit h0 h).1; omega
/-- The rest of a set without its least category. -/
theorem cats_cons {s : Nat} (h0 : s ≠ 0) (h : s < 18446744073709551616) : cats s = Lib.ctz 64 s :: cats (minus s (2 ^ Lib.ctz 64 s)) := by
  obtain ⟨h1, h2, h3⟩ := ctz_bit h0 h
  generalize Lib.ctz 64 s = k at *
  have hm := bit_minus h (one_lt h1)
  refine cats_of (List.pairwise_cons.2 ⟨fun i hi => ?_, cats_rising _⟩) fun i => ?_
  · rw [mem_cats, hm, bit_one] at hi
    obtain ⟨h4, h5⟩ := hi
    rcases Nat.lt_trichotomy i k with hlt | he | hgt
    · rw [h3 _ hlt] at h5; simp at h5
    · subst he; simp at h5
    · exact hgt
  · rw [List.mem_cons, mem_cats, hm, bit_one]
    by_cases e : i = k
    · subst e; simp [h1, h2]
    · have e' : ¬ (k = i) := fun x => e x.symm
      simp [e, e']

/-! ### How many -/
theorem cats_length_le (s : Nat) : (cats s).length ≤ 64 := by
  have := List.length_filter_le (fun i => s.testBit i) (List.range 64)
  simpa [cats] using this
theorem filter_split (l : List Nat) (p q : Nat → Bool) : (l.filter fun i => p i && !q i).length + (l.filter fun i => p i && q i).length = (l.filter p).length := by
  induction l with
  | nil => rfl
  | cons x l ih =>
    cases hp : p x <;> cases hq : q x <;> simp [hp, hq] at ih ⊢ <;> omega
theorem cats_split {a b : Nat} (ha : a < 18446744073709551616) (hb : b < 18446744073709551616) : (cats (minus a b)).length + (cats (a &&& b)).length = (cats a).length := by
  unfold cats
  rw [← filter_split (List.range 64) (fun i => a.testBit i) (fun i => b.testBit i)]
  congr 2
  · congr 1; funext i; exact bit_minus ha hb i
  · congr 1; funext i; exact Nat.testBit_and _ _ _
/-! ### Parts -/
theorem minus_zero {a b : Nat} (ha : a < 18446744073709551616) (hb : b < 18446744073709551616) : minus a b = 0 ↔ ∀ i, a.testBit i = true → b.testBit i = true := by
  constructor
  · intro e i hi
    have := bit_minus ha hb i
    rw [e, hi] at this
    simpa using this
  · intro h
    refine set_ext (minus_lt ha) (by decide) fun i _ => ?_
    rw [bit_minus ha hb]
    cases hx : a.testBit i with
    | false => simp
    | true => rw [h i hx]; simp

end Go.Proofs.YthmccldkknhejaaDoor
