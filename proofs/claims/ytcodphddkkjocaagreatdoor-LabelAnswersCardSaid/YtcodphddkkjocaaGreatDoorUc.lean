/- Labels as text, as plain mathematics: what Show and Read are to answer. Nothing of the program. -/
import Derived.Test.YtcodphddkkjocaaGreatDoorPh
import Derived.Lib.IndexMore
import Derived.Lib.Strings
namespace Go.Proofs.YtcodphddkkjocaaGreatDoor
open Go.RowKit

/-- The bytes of a label's text: its two sets' texts, each behind its name. -/
def labT (x y : Nat) : List UInt8 := [115, 58] ++ textB x ++ [32, 116, 58] ++ textB y
theorem labT_eq (x y : Nat) : labT x y = 115 :: 58 :: (textB x ++ 32 :: 116 :: 58 :: textB y) := by simp [labT]
theorem join_mem (c : UInt8) (h0 : c ≠ 44) : ∀ (ps : List (List UInt8)), (∀ p ∈ ps, c ∉ p) → c ∉ Lib.join ps [44]
  | [], _ => by simp [Lib.join_nil]
  | [p], h => by rw [Lib.join_one]; exact h p (by simp)
  | p :: q :: r, h => by
    have ih := join_mem c h0 (q :: r) (fun x hx => h x (List.mem_cons_of_mem _ hx))
    have hp := h p (by simp)
    have e : Lib.join (p :: q :: r) [44] = p ++ 44 :: Lib.join (q :: r) [44] := by
      rw [Lib.join_cons, Lib.join_cons]; simp [Lib.joinTail]
    rw [e]
    simp [hp, ih, h0]
theorem dec_blank : ∀ f, f < 64 → (32 : UInt8) ∉ decB f := by decide +kernel
theorem show_blank (f l : Nat) (hf : f < 64) (hl : l < 64) : (32 : UInt8) ∉ showR (f, l) := by
  have h1 := dec_blank f hf
  have h2 := dec_blank l hl
  unfold showR
  simp only
  split
  · exact h1
  · simp [h1, h2]
/-- No set's text has a blank in it. -/
theorem text_blank {s : Nat} (hs : s < 18446744073709551616) : (32 : UInt8) ∉ textB s := by
  by_cases h0 : s = 0
  · subst h0; decide
  · rw [text_of h0]
    refine join_mem 32 (by decide) _ fun p hp => ?_
    obtain ⟨q, hq, rfl⟩ := List.mem_map.1 hp
    obtain ⟨h1, h2⟩ := strs_lt hq
    exact show_blank q.1 q.2 (by omega) h2
theorem index_sep : ∀ (p r : List UInt8), (32 : UInt8) ∉ p → Lib.index (p ++ 32 :: 116 :: 58 :: r) [32, 116, 58] = p.length
  | [], r, _ => by simp [Lib.index]
  | c :: cs, r, h => by
    have h1 : ¬ (32 = c) := fun e => h (by simp [e])
    have h2 := index_sep cs r (fun e => h (by simp [e]))
    rw [List.cons_append]
    unfold Lib.index
    rw [h2]
    have h3 : ¬ ((cs.length : Int) = -1) := by omega
    simp [h1, h3]
theorem cut_sep (p r : List UInt8) (h : (32 : UInt8) ∉ p) : Lib.cut (p ++ 32 :: 116 :: 58 :: r) [32, 116, 58] = (p, r, true) := by
  unfold Lib.cut
  rw [index_sep p r h, if_pos (by omega)]
  have e : (p.length : Int).toNat = p.length := by omega
  rw [e]
  simp
/-- Where a text is cut in two, it is these two with the separator between. -/
theorem cut_two (s : List UInt8) (h : (Lib.cut s [32, 116, 58]).2.2 = true) : s = (Lib.cut s [32, 116, 58]).1 ++ 32 :: 116 :: 58 :: (Lib.cut s [32, 116, 58]).2.1 := by
  rcases Lib.index_spec s [32, 116, 58] with ⟨h1, _⟩ | ⟨i, h1, h2, h3, _⟩
  · unfold Lib.cut at h
    rw [h1] at h
    simp at h
  · have e : Lib.cut s [32, 116, 58] = (s.take i, s.drop (i + 3), true) := by
      unfold Lib.cut
      rw [h1, if_pos (by omega)]
      simp
    rw [e]
    simp only
    unfold Lib.occAt at h3
    rw [List.isPrefixOf_iff_prefix] at h3
    obtain ⟨r, hr⟩ := h3
    have hd : s.drop (i + 3) = r := by
      have := congrArg (List.drop 3) hr
      rw [List.drop_drop] at this
      rw [← this]; rfl
    rw [hd]
    have := List.take_append_drop i s
    rw [← hr] at this
    exact this.symm
/-- What Read is to answer. -/
def setsL (t : List UInt8) : List UInt8 := Lib.trimPrefix t [115, 58]
def oneL (t : List UInt8) : List UInt8 := (Lib.cut (setsL t) [32, 116, 58]).1
def twoL (t : List UInt8) : List UInt8 := (Lib.cut (setsL t) [32, 116, 58]).2.1
def formL (t : List UInt8) : Bool := Lib.hasPrefix t [115, 58] && (Lib.cut (setsL t) [32, 116, 58]).2.2
def goodL (t : List UInt8) : Bool := formL t && ((readN (oneL t)).2 && (readN (twoL t)).2)
theorem read_parts (x y : Nat) (hx : x < 18446744073709551616) : formL (labT x y) = true ∧ oneL (labT x y) = textB x ∧ twoL (labT x y) = textB y := by
  have hp : Lib.hasPrefix (labT x y) [115, 58] = true := by rw [labT_eq]; simp [Lib.hasPrefix]
  have hs : setsL (labT x y) = textB x ++ 32 :: 116 :: 58 :: textB y := by
    unfold setsL Lib.trimPrefix
    rw [if_pos hp, labT_eq]
    rfl
  have hc := cut_sep (textB x) (textB y) (text_blank hx)
  unfold formL oneL twoL
  rw [hs, hc, hp]
  exact ⟨rfl, rfl, rfl⟩
theorem lab_back (x y : Nat) (hx : x < 18446744073709551616) (hy : y < 18446744073709551616) : goodL (labT x y) = true ∧ readN (oneL (labT x y)) = (x, true) ∧ readN (twoL (labT x y)) = (y, true) := by
  obtain ⟨h1, h2, h3⟩ := read_parts x y hx
  unfold goodL
  rw [h1, h2, h3, read_text hx, read_text hy]
  exact ⟨rfl, rfl, rfl⟩
theorem lab_inj {x y x' y' : Nat} (hx : x < 18446744073709551616) (hy : y < 18446744073709551616) (hx' : x' < 18446744073709551616) (hy' : y' < 18446744073709551616) (h : labT x y = labT x' y') : x = x' ∧ y = y' := by
  obtain ⟨_, h1, h2⟩ := lab_back x y hx hy
  obtain ⟨_, h3, h4⟩ := lab_back x' y' hx' hy'
  rw [h] at h1 h2
  exact ⟨(Prod.mk.inj (h1.symm.trans h3)).1, (Prod.mk.inj (h2.symm.trans h4)).1⟩
/-- What is read is shown so. -/
theorem lab_good {t : List UInt8} (h : goodL t = true) : labT (readN (oneL t)).1 (readN (twoL t)).1 = t := by
  unfold goodL at h
  rw [Bool.and_eq_true, Bool.and_eq_true] at h
  obtain ⟨h1, h2, h3⟩ := h
  have e1 := read_yes (t := oneL t) (s := (readN (oneL t)).1) (by rw [← h2])
  have e2 := read_yes (t := twoL t) (s := (readN (twoL t)).1) (by rw [← h3])
  rw [labT_eq, e1, e2]
  unfold formL at h1
  rw [Bool.and_eq_true] at h1
  obtain ⟨h4, h5⟩ := h1
  have h6 := cut_two (setsL t) h5
  have h7 : t = 115 :: 58 :: setsL t := by
    unfold setsL Lib.trimPrefix
    rw [if_pos h4]
    unfold Lib.hasPrefix at h4
    rw [List.isPrefixOf_iff_prefix] at h4
    obtain ⟨r, hr⟩ := h4
    rw [← hr]; rfl
  show 115 :: 58 :: ((Lib.cut (setsL t) [32, 116, 58]).1 ++ 32 :: 116 :: 58 :: (Lib.cut (setsL t) [32, 116, 58]).2.1) = t
  rw [← h6]
  exact h7.symm
theorem lab_len {x y : Nat} (hx : x < 18446744073709551616) (hy : y < 18446744073709551616) : (labT x y).length ≤ 805 := by
  have h1 := text_len hx
  have h2 := text_len hy
  rw [labT_eq]
  simp
  omega
theorem part_len (t : List UInt8) : (oneL t).length ≤ t.length ∧ (twoL t).length ≤ t.length ∧ (setsL t).length ≤ t.length := by
  have h0 : (setsL t).length ≤ t.length := Lib.trimPrefix_le _ _
  have h1 : (Lib.cut (setsL t) [32, 116, 58]).1.length ≤ (setsL t).length := by unfold Lib.cut; split <;> simp <;> omega
  have h2 : (Lib.cut (setsL t) [32, 116, 58]).2.1.length ≤ (setsL t).length := by unfold Lib.cut; split <;> simp
  exact ⟨Nat.le_trans h1 h0, Nat.le_trans h2 h0, h0⟩
end Go.Proofs.YtcodphddkkjocaaGreatDoor
