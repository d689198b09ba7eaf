/- A set's text as plain mathematics: stretches, how they are shown, and how a text is read in parts. Nothing of the program. -/
import Derived.Test.YthmccldkknhejaaDoorPa
import Derived.Lib.Join
import Derived.Lib.IndexMore
import Derived.Lib.AtoiAll
namespace Go.Proofs.YthmccldkknhejaaDoor
open Go.RowKit

/-- The stretches of a rising list: each its first and its last one. -/
def runs : List Nat → List (Nat × Nat)
  | [] => []
  | x :: xs => match runs xs with
    | [] => [(x, x)]
    | (f, l) :: r => if f = x + 1 then (x, l) :: r else (x, x) :: (f, l) :: r
def decB (n : Nat) : List UInt8 := if n < 10 then [UInt8.ofNat (48 + n)] else [UInt8.ofNat (48 + n / 10), UInt8.ofNat (48 + n % 10)]
def showR (p : Nat × Nat) : List UInt8 := if p.1 = p.2 then decB p.1 else decB p.1 ++ 45 :: decB p.2
def noneB : List UInt8 := [110, 111, 110, 101]
/-- A set as text. -/
def textB (s : Nat) : List UInt8 := if s = 0 then noneB else Lib.join ((runs (cats s)).map showR) [44]

/-- Rising stretches that don't touch. -/
structure Apart (L : List (Nat × Nat)) : Prop where
  apart : L.Pairwise (fun a b => a.2 + 1 < b.1)
  up : ∀ p ∈ L, p.1 ≤ p.2
theorem runs_head (x : Nat) (xs : List Nat) : ∃ l r, runs (x :: xs) = (x, l) :: r := by
  unfold runs
  split
  · exact ⟨_, _, rfl⟩
  · split
    · exact ⟨_, _, rfl⟩
    · exact ⟨_, _, rfl⟩
theorem runs_apart : ∀ (l : List Nat), l.Pairwise (· < ·) → Apart (runs l)
  | [], _ => ⟨List.Pairwise.nil, fun p h => by cases h⟩
  | x :: xs, h => by
    obtain ⟨h1, h2⟩ := List.pairwise_cons.1 h
    have ih := runs_apart xs h2
    cases xs with
    | nil => exact ⟨by simp [runs], fun p hp => by simp [runs] at hp; subst hp; exact Nat.le_refl _⟩
    | cons y ys =>
      obtain ⟨l, r, e⟩ := runs_head y ys
      have hxy := h1 y (by simp)
      rw [e] at ih
      obtain ⟨ha, hu⟩ := ih
      obtain ⟨ha1, ha2⟩ := List.pairwise_cons.1 ha
      have hyl : y ≤ l := hu (y, l) (by simp)
      unfold runs
      rw [e]
      simp only
      split
      · rename_i hy
        refine ⟨List.pairwise_cons.2 ⟨ha1, ha2⟩, fun p hp => ?_⟩
        rcases List.mem_cons.1 hp with rfl | hp
        · show x ≤ l; omega
        · exact hu p (by simp [hp])
      · rename_i hy
        refine ⟨List.pairwise_cons.2 ⟨fun p hp => ?_, ha⟩, fun p hp => ?_⟩
        · show x + 1 < p.1
          rcases List.mem_cons.1 hp with rfl | hp
          · show x + 1 < y; omega
          · have := ha1 p hp; simp at this; omega
        · rcases List.mem_cons.1 hp with rfl | hp
          · exact Nat.le_refl _
          · exact hu p hp
theorem runs_step {x y : Nat} {ys : List Nat} {l : Nat} {r : List (Nat × Nat)} (e : runs (y :: ys) = (y, l) :: r) : runs (x :: y :: ys) = if y = x + 1 then (x, l) :: r else (x, x) :: (y, l) :: r := by
  conv => lhs; unfold runs
  rw [e]
theorem runs_up : ∀ (l : List Nat) (p : Nat × Nat), p ∈ runs l → p.1 ≤ p.2
  | [], p, h => by simp [runs] at h
  | [x], p, h => by simp [runs] at h; subst h; exact Nat.le_refl _
  | x :: y :: ys, p, h => by
    obtain ⟨l, r, e⟩ := runs_head y ys
    have hy := runs_up (y :: ys) (y, l) (by rw [e]; simp)
    have hr : ∀ q ∈ r, q.1 ≤ q.2 := fun q hq => runs_up (y :: ys) q (by rw [e]; simp [hq])
    rw [runs_step e] at h
    split at h
    · rcases List.mem_cons.1 h with rfl | h
      · simp at hy ⊢; omega
      · exact hr p h
    · rcases List.mem_cons.1 h with rfl | h
      · exact Nat.le_refl _
      · rcases List.mem_cons.1 h with rfl | h
        · exact hy
        · exact hr p h
theorem runs_mem : ∀ (l : List Nat) (i : Nat), i ∈ l ↔ ∃ p ∈ runs l, p.1 ≤ i ∧ i ≤ p.2
  | [], i => by simp [runs]
  | [x], i => by simp [runs]; omega
  | x :: y :: ys, i => by
    obtain ⟨l, r, e⟩ := runs_head y ys
    have hy := runs_up (y :: ys) (y, l) (by rw [e]; simp)
    rw [List.mem_cons, runs_mem (y :: ys) i, runs_step e, e]
    simp only at hy
    split
    · constructor
      · rintro (rfl | ⟨p, hp, h1, h2⟩)
        · exact ⟨(i, l), by simp, Nat.le_refl _, by simp; omega⟩
        · rcases List.mem_cons.1 hp with rfl | hp
          · exact ⟨(x, l), by simp, by simp at h1 ⊢; omega, h2⟩
          · exact ⟨p, by simp [hp], h1, h2⟩
      · rintro ⟨p, hp, h1, h2⟩
        rcases List.mem_cons.1 hp with rfl | hp
        · by_cases hx : i = x
          · exact .inl hx
          · exact .inr ⟨(y, l), by simp, by simp at h1 ⊢; omega, h2⟩
        · exact .inr ⟨p, by simp [hp], h1, h2⟩
    · constructor
      · rintro (rfl | ⟨p, hp, h1, h2⟩)
        · exact ⟨(i, i), by simp, Nat.le_refl _, Nat.le_refl _⟩
        · exact ⟨p, List.mem_cons_of_mem _ hp, h1, h2⟩
      · rintro ⟨p, hp, h1, h2⟩
        rcases List.mem_cons.1 hp with rfl | hp
        · simp at h1 h2; exact .inl (by omega)
        · exact .inr ⟨p, hp, h1, h2⟩

/-! ### The first ones, and how far a stretch goes -/
theorem apart_bit {L : List (Nat × Nat)} (h : Apart L) {p : Nat × Nat} (hp : p ∈ L) {q : Nat × Nat} (hq : q ∈ L) {i : Nat} (h1 : q.1 ≤ i) (h2 : i ≤ q.2) (h3 : p.1 ≤ i + 1) (h4 : i ≤ p.2 + 1) : p = q := by
  obtain ⟨ha, hu⟩ := h
  induction L with
  | nil => cases hp
  | cons a L ih =>
    obtain ⟨hx, hy⟩ := List.pairwise_cons.1 ha
    rcases List.mem_cons.1 hp with e1 | e1 <;> rcases List.mem_cons.1 hq with e2 | e2
    · rw [e1, e2]
    · have := hx q e2; rw [← e1] at this; omega
    · have := hx p e1; rw [← e2] at this; omega
    · exact ih e1 e2 hy (fun r hr => hu r (List.mem_cons_of_mem _ hr))
theorem apart_firsts {L : List (Nat × Nat)} (h : Apart L) : (L.map (·.1)).Pairwise (· < ·) := by
  rw [List.pairwise_map]
  refine h.apart.imp_of_mem fun {a b} hma hmb hab => ?_
  have := h.up a hma
  omega
/-- The stretches of a set. -/
def strs (s : Nat) : List (Nat × Nat) := runs (cats s)
theorem strs_apart (s : Nat) : Apart (strs s) := runs_apart _ (cats_rising s)
theorem strs_mem (s i : Nat) : (i < 64 ∧ s.testBit i = true) ↔ ∃ p ∈ strs s, p.1 ≤ i ∧ i ≤ p.2 := by rw [← mem_cats, runs_mem]; rfl
theorem strs_lt {s : Nat} {p : Nat × Nat} (h : p ∈ strs s) : p.1 ≤ p.2 ∧ p.2 < 64 := by
  have hu := (strs_apart s).up p h
  exact ⟨hu, ((strs_mem s p.2).2 ⟨p, h, hu, Nat.le_refl _⟩).1⟩
theorem bit_up {s i : Nat} : (s * 2 % 18446744073709551616).testBit i = (decide (0 < i) && decide (i < 64) && s.testBit (i - 1)) := by
  rw [show (18446744073709551616 : Nat) = 2 ^ 64 by decide, Nat.testBit_mod_two_pow]
  cases i with
  | zero => simp [Nat.testBit_zero]
  | succ i => rw [Nat.testBit_succ]; simp
/-- Where stretches begin. -/
theorem firsts {s : Nat} (h : s < 18446744073709551616) : cats (minus s (s * 2 % 18446744073709551616)) = (strs s).map (·.1) := by
  refine cats_of (apart_firsts (strs_apart s)) fun i => ?_
  rw [bit_minus h (Nat.mod_lt _ (by decide)), bit_up, List.mem_map]
  constructor
  · rintro ⟨p, hp, rfl⟩
    obtain ⟨h1, h2⟩ := strs_lt hp
    obtain ⟨_, h4⟩ := (strs_mem s p.1).2 ⟨p, hp, Nat.le_refl _, h1⟩
    refine ⟨by omega, ?_⟩
    rw [h4]
    by_cases h0 : 0 < p.1
    · have : s.testBit (p.1 - 1) = false := by
        cases e : s.testBit (p.1 - 1) with
        | false => rfl
        | true =>
          obtain ⟨q, hq, h5, h6⟩ := (strs_mem s (p.1 - 1)).1 ⟨by omega, e⟩
          have := apart_bit (strs_apart s) hp hq h5 h6 (by omega) (by omega)
          subst this
          omega
      simp [this]
    · simp [h0]
  · rintro ⟨h1, h2⟩
    have h3 : s.testBit i = true := by cases e : s.testBit i <;> simp [e] at h2 ⊢
    obtain ⟨p, hp, h5, h6⟩ := (strs_mem s i).1 ⟨h1, h3⟩
    refine ⟨p, hp, ?_⟩
    by_cases e : p.1 = i
    · exact e
    · exfalso
      obtain ⟨_, h7⟩ := (strs_mem s (i - 1)).2 ⟨p, hp, by omega, by omega⟩
      have h8 : 0 < i := by omega
      simp [h3, h7, h8, h1] at h2
/-- How many there are from a first one on. -/
theorem many {s : Nat} (h : s < 18446744073709551616) {p : Nat × Nat} (hp : p ∈ strs s) : Lib.ctz 64 (18446744073709551615 - s / 2 ^ p.1) = p.2 + 1 - p.1 := by
  obtain ⟨h1, h2⟩ := strs_lt hp
  have hd : s / 2 ^ p.1 < 18446744073709551616 := Nat.lt_of_le_of_lt (Nat.div_le_self _ _) h
  have hb : ∀ i, (s / 2 ^ p.1).testBit i = s.testBit (p.1 + i) := fun i => by rw [Nat.testBit_div_two_pow, Nat.add_comm]
  have hin : ∀ i, i < p.2 + 1 - p.1 → (18446744073709551615 - s / 2 ^ p.1).testBit i = false := fun i hi => by
    rw [bit_not hd (by omega), hb, ((strs_mem s (p.1 + i)).2 ⟨p, hp, by omega, by omega⟩).2]; rfl
  have hs := Nat.sub_le 18446744073709551615 (s / 2 ^ p.1)
  by_cases hall : p.2 + 1 - p.1 = 64
  · have : 18446744073709551615 - s / 2 ^ p.1 = 0 := by
      refine set_ext (by omega) (by decide) fun i hi => ?_
      rw [hin i (by omega)]; simp
    rw [this, hall]; rfl
  · refine ctz_is (by omega) ?_ hin
    rw [bit_not hd (by omega), hb]
    have : s.testBit (p.1 + (p.2 + 1 - p.1)) = false := by
      rw [show p.1 + (p.2 + 1 - p.1) = p.2 + 1 by omega]
      cases e : s.testBit (p.2 + 1) with
      | false => rfl
      | true =>
        by_cases hh : p.2 + 1 < 64
        · obtain ⟨q, hq, h5, h6⟩ := (strs_mem s (p.2 + 1)).1 ⟨hh, e⟩
          have := apart_bit (strs_apart s) hp hq h5 h6 (by omega) (by omega)
          subst this
          omega
        · rw [bit_high h (by omega)] at e; cases e
    rw [this]; rfl
theorem strs_nil {s : Nat} (h : s < 18446744073709551616) : strs s = [] ↔ s = 0 := by
  constructor
  · intro e
    refine set_ext h (by decide) fun i hi => ?_
    cases hb : s.testBit i with
    | false => simp
    | true =>
      obtain ⟨p, hp, _⟩ := (strs_mem s i).1 ⟨hi, hb⟩
      rw [e] at hp; cases hp
  · rintro rfl; decide +kernel
end Go.Proofs.YthmccldkknhejaaDoor
