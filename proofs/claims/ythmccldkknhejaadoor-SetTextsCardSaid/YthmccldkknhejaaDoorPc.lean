/- How a set's text is read, as plain mathematics: by parts (the program), byte by byte (the document's own): both come to the set that is shown so. Nothing of the program. -/
import Derived.Test.YthmccldkknhejaaDoorPb
namespace Go.Proofs.YthmccldkknhejaaDoor
set_option linter.unusedVariables false
open Go.RowKit

/-! ### Split at every comma -/
def splitC : List UInt8 → List (List UInt8)
  | [] => [[]]
  | c :: cs => if c = 44 then [] :: splitC cs else match splitC cs with
    | [] => [[c]]
    | p :: ps => (c :: p) :: ps
theorem splitC_ne (l : List UInt8) : splitC l ≠ [] := by
  cases l with
  | nil => simp [splitC]
  | cons c cs =>
    unfold splitC
    split
    · simp
    · split <;> simp
theorem splitC_one : ∀ (p : List UInt8), (44 : UInt8) ∉ p → splitC p = [p]
  | [], _ => rfl
  | c :: cs, h => by
    have h1 : c ≠ 44 := fun e => h (by simp [e])
    have h2 := splitC_one cs (fun e => h (by simp [e]))
    unfold splitC
    rw [if_neg h1, h2]
theorem splitC_cons : ∀ (p r : List UInt8), (44 : UInt8) ∉ p → splitC (p ++ 44 :: r) = p :: splitC r
  | [], r, _ => by simp [splitC]
  | c :: cs, r, h => by
    have h1 : c ≠ 44 := fun e => h (by simp [e])
    have h2 := splitC_cons cs r (fun e => h (by simp [e]))
    rw [List.cons_append]
    conv => lhs; unfold splitC
    rw [if_neg h1, h2]
theorem splitC_join : ∀ (ps : List (List UInt8)), ps ≠ [] → (∀ p ∈ ps, (44 : UInt8) ∉ p) → splitC (Lib.join ps [44]) = ps
  | [], h, _ => absurd rfl h
  | [p], _, h => by rw [Lib.join_one, splitC_one p (h p (by simp))]
  | p :: q :: r, _, h => by
    have ih := splitC_join (q :: r) (by simp) (fun x hx => h x (List.mem_cons_of_mem _ hx))
    have e : Lib.join (p :: q :: r) [44] = p ++ 44 :: Lib.join (q :: r) [44] := by
      rw [Lib.join_cons, Lib.join_cons]; simp [Lib.joinTail]
    rw [e, splitC_cons p _ (h p (by simp)), ih]

/-! ### A stretch -/
/-- All categories from one to another one. -/
def spanN (f l : Nat) : Nat := minus ((2 ^ l - 1) ||| 2 ^ l) (2 ^ f - 1)
theorem below_lt {c : Nat} (h : c < 64) : 2 ^ c - 1 < 18446744073709551616 := by have := one_lt h; omega
theorem bit_span {f l : Nat} (hf : f < 64) (hl : l < 64) (i : Nat) : (spanN f l).testBit i = decide (f ≤ i ∧ i ≤ l) := by
  unfold spanN
  rw [bit_minus (or_lt (below_lt hl) (one_lt hl)) (below_lt hf), Nat.testBit_or, Nat.testBit_two_pow_sub_one, Nat.testBit_two_pow_sub_one, bit_one]
  by_cases h1 : f ≤ i <;> by_cases h2 : i ≤ l
  · have : i < l ∨ l = i := by omega
    have h3 : ¬ i < f := by omega
    rcases this with h | h <;> simp [h, h1, h2, h3]
  · have h3 : ¬ i < l := by omega
    have h4 : ¬ l = i := by omega
    simp [h2, h3, h4]
  · have h3 : i < f := by omega
    simp [h1, h3]
  · have h3 : i < f := by omega
    simp [h1, h3]
theorem span_lt {f l : Nat} (hl : l < 64) : spanN f l < 18446744073709551616 := minus_lt (or_lt (below_lt hl) (one_lt hl))
def readCatN (b : List UInt8) : Option Nat := match Lib.atoiAll b with
  | .ok v => if 0 ≤ v ∧ v < 64 then some v.toNat else none
  | _ => none
theorem readCat_lt {b : List UInt8} {c : Nat} (h : readCatN b = some c) : c < 64 := by
  unfold readCatN at h
  split at h
  · split at h
    · simp at h; omega
    · cases h
  · cases h
/-- The categories of a stretch's text. -/
def readStrN (b : List UInt8) : Nat :=
  match readCatN (Lib.cut b [45]).1, readCatN (if (Lib.cut b [45]).2.2 then (Lib.cut b [45]).2.1 else (Lib.cut b [45]).1) with
  | some f, some l => spanN f l
  | _, _ => 0
theorem readStr_lt (b : List UInt8) : readStrN b < 18446744073709551616 := by
  unfold readStrN
  split
  · rename_i h; exact span_lt (readCat_lt h)
  · decide
theorem readCat_dec : ∀ f, f < 64 → readCatN (decB f) = some f := by decide +kernel
theorem dec_plain : ∀ f, f < 64 → (45 : UInt8) ∉ decB f ∧ (44 : UInt8) ∉ decB f := by decide +kernel
theorem index_dash : ∀ (p r : List UInt8), (45 : UInt8) ∉ p → Lib.index (p ++ 45 :: r) [45] = p.length
  | [], r, _ => by simp [Lib.index]
  | c :: cs, r, h => by
    have h1 : ¬ (45 = c) := fun e => h (by simp [e])
    have h2 := index_dash cs r (fun e => h (by simp [e]))
    rw [List.cons_append]
    unfold Lib.index
    rw [h2]
    have h3 : ¬ ((cs.length : Int) = -1) := by omega
    simp [h1, h3]
theorem index_none : ∀ (p : List UInt8), (45 : UInt8) ∉ p → Lib.index p [45] = -1
  | [], _ => rfl
  | c :: cs, h => by
    have h1 : ¬ (45 = c) := fun e => h (by simp [e])
    have h2 := index_none cs (fun e => h (by simp [e]))
    unfold Lib.index
    rw [h2]
    simp [h1]
theorem readStr_show : ∀ f, f < 64 → ∀ l, l < 64 → readStrN (showR (f, l)) = spanN f l := fun f hf l hl => by
  have hc := readCat_dec f hf
  unfold showR
  simp only
  split
  · rename_i e
    subst e
    have h1 := index_none _ (dec_plain f hf).1
    have : Lib.cut (decB f) [45] = (decB f, [], false) := by unfold Lib.cut; rw [h1]; rfl
    unfold readStrN
    rw [this]
    simp [hc]
  · have h1 := index_dash _ (decB l) (dec_plain f hf).1
    have : Lib.cut (decB f ++ 45 :: decB l) [45] = (decB f, decB l, true) := by
      unfold Lib.cut
      rw [h1, if_pos (by omega)]
      have e : ((decB f).length : Int).toNat = (decB f).length := by omega
      rw [e]
      simp
    unfold readStrN
    rw [this]
    simp [hc, readCat_dec l hl]
theorem show_comma : ∀ f, f < 64 → ∀ l, l < 64 → (44 : UInt8) ∉ showR (f, l) := fun f hf l hl => by
  have h1 := (dec_plain f hf).2
  have h2 := (dec_plain l hl).2
  unfold showR
  simp only
  split
  · exact h1
  · simp [h1, h2]
/-- The set of a text's parts. -/
def parseN (t : List UInt8) : Nat := (splitC t).foldl (fun u p => u ||| readStrN p) 0
theorem bits_foldl {α : Type} (g : α → Nat) (i : Nat) : ∀ (l : List α) (u : Nat), (l.foldl (fun u p => u ||| g p) u).testBit i = (u.testBit i || l.any fun p => (g p).testBit i)
  | [], _ => by simp
  | p :: l, _ => by rw [List.foldl_cons, bits_foldl g i l, Nat.testBit_or, List.any_cons, Bool.or_assoc]
theorem foldl_lt {α : Type} (g : α → Nat) (hg : ∀ p, g p < 18446744073709551616) : ∀ (l : List α) (u : Nat), u < 18446744073709551616 → l.foldl (fun u p => u ||| g p) u < 18446744073709551616
  | [], u, h => h
  | p :: l, u, h => foldl_lt g hg l _ (or_lt h (hg p))
theorem parse_lt (t : List UInt8) : parseN t < 18446744073709551616 := foldl_lt _ readStr_lt _ _ (by decide)
theorem text_of {s : Nat} (h0 : s ≠ 0) : textB s = Lib.join ((strs s).map showR) [44] := by unfold textB; rw [if_neg h0]; rfl
theorem parse_text {s : Nat} (h : s < 18446744073709551616) : parseN (textB s) = s := by
  by_cases h0 : s = 0
  · subst h0; decide +kernel
  · rw [text_of h0]
    unfold parseN
    rw [splitC_join]
    · refine set_ext (foldl_lt _ readStr_lt _ _ (by decide)) h fun i hi => ?_
      rw [bits_foldl, Nat.zero_testBit, Bool.false_or, List.any_map]
      have hx : ∀ p ∈ strs s, ((fun p => (readStrN p).testBit i) ∘ showR) p = decide (p.1 ≤ i ∧ i ≤ p.2) := fun p hp => by
        obtain ⟨h1, h2⟩ := strs_lt hp
        show (readStrN (showR (p.1, p.2))).testBit i = _
        rw [readStr_show p.1 (by omega) p.2 h2, bit_span (by omega) h2]
      rw [Bool.eq_iff_iff, List.any_eq_true]
      constructor
      · rintro ⟨p, hp, e⟩
        rw [hx p hp] at e
        exact ((strs_mem s i).2 ⟨p, hp, by simpa using e⟩).2
      · intro e
        obtain ⟨p, hp, e1⟩ := (strs_mem s i).1 ⟨hi, e⟩
        exact ⟨p, hp, by rw [hx p hp]; simpa using e1⟩
    · intro e
      exact h0 ((strs_nil h).1 (List.map_eq_nil_iff.1 e))
    · intro p hp
      obtain ⟨q, hq, rfl⟩ := List.mem_map.1 hp
      obtain ⟨h1, h2⟩ := strs_lt hq
      exact show_comma q.1 (by omega) q.2 h2
theorem text_inj {a b : Nat} (ha : a < 18446744073709551616) (hb : b < 18446744073709551616) (h : textB a = textB b) : a = b := by
  rw [← parse_text ha, h, parse_text hb]
/-- What is read of a text. -/
def readN (t : List UInt8) : Nat × Bool := if textB (parseN t) = t then (parseN t, true) else (0, false)
theorem read_text {s : Nat} (h : s < 18446744073709551616) : readN (textB s) = (s, true) := by
  unfold readN; rw [parse_text h, if_pos rfl]
theorem read_lt (t : List UInt8) : (readN t).1 < 18446744073709551616 := by
  unfold readN; split
  · exact parse_lt t
  · decide
theorem read_not {t : List UInt8} (h : ∀ s, s < 18446744073709551616 → textB s ≠ t) : readN t = (0, false) := by
  unfold readN; rw [if_neg (h _ (parse_lt t))]
theorem read_yes {t : List UInt8} {s : Nat} (h : readN t = (s, true)) : textB s = t := by
  unfold readN at h
  split at h
  · rename_i e; simp at h; rw [h] at e; exact e
  · simp at h
theorem read_no {t : List UInt8} {s : Nat} (h : readN t = (s, false)) : s = 0 := by
  unfold readN at h
  split at h
  · simp at h
  · simp at h; exact h.symm

/-! ### Byte by byte -/
/-- A set with all from one to ahead of another one. -/
def addTo (s f k : Nat) : Nat := (List.range (k - f)).foldl (fun u j => u ||| 2 ^ (f + j)) s
theorem addTo_same (s f : Nat) : addTo s f f = s := by simp [addTo]
theorem addTo_succ (s f k : Nat) (h : f ≤ k) : addTo s f (k + 1) = addTo s f k ||| 2 ^ k := by
  unfold addTo
  rw [show k + 1 - f = (k - f) + 1 by omega, List.range_succ, List.foldl_append]
  simp only [List.foldl_cons, List.foldl_nil]
  rw [show f + (k - f) = k by omega]
theorem bit_addTo (s f k i : Nat) : (addTo s f k).testBit i = (s.testBit i || decide (f ≤ i ∧ i < k)) := by
  unfold addTo
  rw [bits_foldl]
  congr 1
  rw [Bool.eq_iff_iff, List.any_eq_true]
  constructor
  · rintro ⟨j, hj, e⟩
    rw [bit_one] at e
    have := List.mem_range.1 hj
    simp at e ⊢; omega
  · intro e
    simp at e
    exact ⟨i - f, List.mem_range.2 (by omega), by rw [bit_one]; simp; omega⟩
theorem addTo_lt {s f k : Nat} (hs : s < 18446744073709551616) (hk : k ≤ 64) : addTo s f k < 18446744073709551616 := by
  have : addTo s f k < 2 ^ 65 := by
    unfold addTo
    have : ∀ (l : List Nat), (∀ j ∈ l, f + j < 64) → ∀ u, u < 18446744073709551616 → l.foldl (fun u j => u ||| 2 ^ (f + j)) u < 18446744073709551616 := by
      intro l
      induction l with
      | nil => intro _ u hu; exact hu
      | cons j l ih => intro h u hu; exact ih (fun x hx => h x (List.mem_cons_of_mem _ hx)) _ (or_lt hu (one_lt (h j (by simp))))
    have := this (List.range (k - f)) (fun j hj => by have := List.mem_range.1 hj; omega) s hs
    omega
  refine Nat.lt_of_not_le fun hle => ?_
  obtain ⟨i, hi, hb⟩ : ∃ i, 64 ≤ i ∧ (addTo s f k).testBit i = true := by
    have h2 : addTo s f k ≥ 2 ^ 64 := by omega
    exact Nat.exists_ge_and_testBit_of_ge_two_pow h2
  rw [bit_addTo, bit_high hs hi] at hb
  simp at hb; omega
/-- One byte more of a text: the number at hand, and the one ahead of the '-'. -/
def numStep (q : Int × Int) (c : UInt8) : Option (Int × Int) :=
  if 48 ≤ c ∧ c ≤ 57 then
    if 63 < max q.1 0 * 10 + (c.toNat - 48 : Int) then none else some (max q.1 0 * 10 + (c.toNat - 48 : Int), q.2)
  else if c = 45 ∧ 0 ≤ q.1 ∧ q.2 < 0 then some (-1, q.1)
  else none
def refStep (st : Nat × Int × Int) (c : UInt8) : Option (Nat × Int × Int) :=
  if c = 44 then
    if 0 ≤ st.2.1 then some (addTo st.1 (if st.2.2 < 0 then st.2.1 else st.2.2).toNat (st.2.1.toNat + 1), -1, -1) else none
  else (numStep st.2 c).map fun q => (st.1, q)
def numRun : List UInt8 → Int × Int → Option (Int × Int)
  | [], q => some q
  | c :: cs, q => (numStep q c).bind (numRun cs)
def refRun : List UInt8 → Nat × Int × Int → Option (Nat × Int × Int)
  | [], st => some st
  | c :: cs, st => (refStep st c).bind (refRun cs)
theorem refRun_append : ∀ (a b : List UInt8) (st : Nat × Int × Int), refRun (a ++ b) st = (refRun a st).bind (refRun b)
  | [], b, st => rfl
  | c :: cs, b, st => by
    rw [List.cons_append]
    unfold refRun
    cases refStep st c with
    | none => rfl
    | some x => exact refRun_append cs b x
theorem refRun_num (u : Nat) : ∀ (a : List UInt8) (q : Int × Int), (44 : UInt8) ∉ a → refRun a (u, q) = (numRun a q).map fun r => (u, r)
  | [], q, _ => rfl
  | c :: cs, q, h => by
    have h1 : c ≠ 44 := fun e => h (by simp [e])
    have h2 : (44 : UInt8) ∉ cs := fun e => h (by simp [e])
    unfold refRun numRun refStep
    rw [if_neg h1]
    cases e : numStep q c with
    | none => simp
    | some r => simp; exact refRun_num u cs r h2
theorem num_show : ∀ f, f < 64 → ∀ l, l < 64 → numRun (showR (f, l)) (-1, -1) = some (if f = l then ((f : Int), -1) else ((l : Int), (f : Int))) := by decide +kernel
theorem ref_piece (u f l : Nat) (hf : f < 64) (hl : l < 64) : refRun (showR (f, l) ++ [44]) (u, -1, -1) = some (addTo u f (l + 1), -1, -1) := by
  rw [refRun_append, refRun_num u _ _ (show_comma f hf l hl), num_show f hf l hl]
  by_cases h : f = l
  · subst h
    simp [refRun, refStep]
  · have h1 : ¬ ((f : Int) < 0) := by omega
    simp [h, refRun, refStep, h1]
theorem join_comma : ∀ (ps : List (List UInt8)), ps ≠ [] → Lib.join ps [44] ++ [44] = (ps.map (· ++ [44])).flatten
  | [], h => absurd rfl h
  | [p], _ => by rw [Lib.join_one]; simp
  | p :: q :: r, _ => by
    have ih := join_comma (q :: r) (by simp)
    have e : Lib.join (p :: q :: r) [44] = p ++ 44 :: Lib.join (q :: r) [44] := by
      rw [Lib.join_cons, Lib.join_cons]; simp [Lib.joinTail]
    rw [e, List.append_assoc, List.cons_append, ih]
    simp
theorem ref_pieces : ∀ (L : List (Nat × Nat)) (u : Nat), (∀ p ∈ L, p.1 < 64 ∧ p.2 < 64) →
    refRun ((L.map showR).map (· ++ [44])).flatten (u, -1, -1) = some (L.foldl (fun u p => addTo u p.1 (p.2 + 1)) u, -1, -1)
  | [], u, _ => rfl
  | p :: L, u, h => by
    obtain ⟨h1, h2⟩ := h p (by simp)
    have ih := ref_pieces L (addTo u p.1 (p.2 + 1)) (fun q hq => h q (List.mem_cons_of_mem _ hq))
    rw [List.map_cons, List.map_cons, List.flatten_cons, refRun_append, show showR p = showR (p.1, p.2) from rfl, ref_piece u p.1 p.2 h1 h2]
    exact ih
theorem bits_adds (i : Nat) : ∀ (L : List (Nat × Nat)) (u : Nat), (L.foldl (fun u p => addTo u p.1 (p.2 + 1)) u).testBit i = (u.testBit i || L.any fun p => decide (p.1 ≤ i ∧ i < p.2 + 1))
  | [], u => by simp
  | p :: L, u => by rw [List.foldl_cons, bits_adds i L, bit_addTo, List.any_cons, Bool.or_assoc]
theorem ref_text {s : Nat} (h : s < 18446744073709551616) (h0 : s ≠ 0) : refRun (textB s ++ [44]) (0, -1, -1) = some (s, -1, -1) := by
  have hne : (strs s).map showR ≠ [] := fun e => h0 ((strs_nil h).1 (List.map_eq_nil_iff.1 e))
  rw [text_of h0, join_comma _ hne, ref_pieces _ _ (fun p hp => by have := strs_lt hp; omega)]
  have : (strs s).foldl (fun u p => addTo u p.1 (p.2 + 1)) 0 = s := by
    apply Nat.eq_of_testBit_eq
    intro i
    rw [bits_adds, Nat.zero_testBit, Bool.false_or, Bool.eq_iff_iff, List.any_eq_true]
    constructor
    · rintro ⟨p, hp, e⟩
      exact ((strs_mem s i).2 ⟨p, hp, by simp at e; omega⟩).2
    · intro e
      have hi : i < 64 := by
        refine Nat.lt_of_not_le fun hle => ?_
        rw [bit_high h hle] at e; cases e
      obtain ⟨p, hp, e1, e2⟩ := (strs_mem s i).1 ⟨hi, e⟩
      exact ⟨p, hp, by simp; omega⟩
  rw [this]
/-- What the document's own reads. -/
def refReadN (t : List UInt8) : Nat × Bool := match refRun (t ++ [44]) (0, -1, -1) with
  | none => (0, t == noneB)
  | some st => if textB st.1 = t then (st.1, true) else (0, t == noneB)
theorem text_zero : textB 0 = noneB := rfl
theorem refRun_none : refRun (noneB ++ [44]) (0, -1, -1) = none := by decide
theorem refStep_lt {st st' : Nat × Int × Int} {c : UInt8} (h : refStep st c = some st') (hs : st.1 < 18446744073709551616) (hn : st.2.1 ≤ 63) : st'.1 < 18446744073709551616 ∧ st'.2.1 ≤ 63 := by
  unfold refStep at h
  split at h
  · split at h
    · simp at h; subst h; exact ⟨addTo_lt hs (by omega), by show (-1 : Int) ≤ 63; decide⟩
    · cases h
  · obtain ⟨q, hq, rfl⟩ := Option.map_eq_some_iff.1 h
    refine ⟨hs, ?_⟩
    unfold numStep at hq
    split at hq
    · split at hq
      · cases hq
      · rename_i h9; simp at hq; subst hq; simp only; omega
    · split at hq
      · simp at hq; subst hq; show (-1 : Int) ≤ 63; decide
      · cases hq
theorem refRun_lt : ∀ (t : List UInt8) {st st' : Nat × Int × Int}, refRun t st = some st' → st.1 < 18446744073709551616 → st.2.1 ≤ 63 → st'.1 < 18446744073709551616
  | [], st, st', h, hs, _ => by simp [refRun] at h; subst h; exact hs
  | c :: cs, st, st', h, hs, hn => by
    unfold refRun at h
    obtain ⟨x, hx, h2⟩ := Option.bind_eq_some_iff.1 h
    obtain ⟨h3, h4⟩ := refStep_lt hx hs hn
    exact refRun_lt cs h2 h3 h4
theorem read_same (t : List UInt8) : refReadN t = readN t := by
  by_cases h : ∃ s, s < 18446744073709551616 ∧ textB s = t
  · obtain ⟨s, hs, rfl⟩ := h
    rw [read_text hs]
    unfold refReadN
    by_cases h0 : s = 0
    · subst h0
      rw [text_zero, refRun_none]; rfl
    · rw [ref_text hs h0]
      simp
  · have hno : ∀ s, s < 18446744073709551616 → textB s ≠ t := fun s hs e => h ⟨s, hs, e⟩
    have hn : (t == noneB) = false := by
      have := hno 0 (by decide)
      rw [text_zero] at this
      simp only [beq_eq_false_iff_ne]
      exact fun e => this e.symm
    rw [read_not hno]
    unfold refReadN
    split
    · rw [hn]
    · rename_i st e
      rw [if_neg (hno _ (refRun_lt _ e (by decide) (by decide))), hn]
end Go.Proofs.YthmccldkknhejaaDoor
