/- What Decode, All and Join are to answer, as plain mathematics; records come back from their bytes, cut anywhere. -/
import Derived.Test.YtlohogcddelekaaEg
namespace Go.Proofs.Ytlohogcddelekaa
set_option linter.unusedVariables false

theorem isBytes.take {zs : List Int} (h : isBytes zs) (n : Nat) : isBytes (zs.take n) := fun z hz => h z (List.mem_of_mem_take hz)
theorem isBytes.drop {zs : List Int} (h : isBytes zs) (n : Nat) : isBytes (zs.drop n) := fun z hz => h z (List.mem_of_mem_drop hz)
theorem isBytes.append {xs ys : List Int} (h : isBytes xs) (k : isBytes ys) : isBytes (xs ++ ys) := fun z hz => (List.mem_append.1 hz).elim (h z) (k z)
theorem zeros_bytes (n : Nat) : isBytes (zeros n) := fun z hz => by
  have := (List.mem_replicate.1 hz).2
  omega
theorem pad_bytes {b : List Int} (h : isBytes b) : isBytes (pad b) := (h.append (zeros_bytes 24)).take 24
theorem fromN_8 (zs : List Int) (h : isBytes zs) (n : Nat) (hn : n ≤ 8) : fromN (zs.take n) < 18446744073709551616 := by
  have h1 := fromN_lt (zs.take n) (h.take n)
  have h2 : 256 ^ (zs.take n).length ≤ 256 ^ 8 := Nat.pow_le_pow_right (by decide) (by rw [List.length_take]; omega)
  omega
theorem fromN_k (zs : List Int) (h : isBytes zs) (n : Nat) : fromN (zs.take n) < 256 ^ n := by
  have h1 := fromN_lt (zs.take n) (h.take n)
  have h2 : 256 ^ (zs.take n).length ≤ 256 ^ n := Nat.pow_le_pow_right (by decide) (by rw [List.length_take]; omega)
  omega
theorem rdN_i64 (zs : List Int) (h : isBytes zs) (f k : Nat) (hk : k ≤ 7) : isI64 (rdN zs f k) := by
  unfold rdN
  split
  · exact ⟨by omega, by omega⟩
  · have := zag_bounds _ (fromN_8 zs h (k + 1) (by omega))
    exact ⟨this.1, by omega⟩
theorem rdR_bytes {zs : List Int} (h : isBytes zs) (f k : Nat) : isBytes (rdR zs f k) := by
  unfold rdR
  split
  · exact h
  · exact h.drop _
theorem read24_ok (c : List Int) (h : isBytes c) : okR (read24 c) := by
  unfold read24
  dsimp only
  split
  · have := fromN_k (c.drop 3) (h.drop 3) 2
    exact ⟨by simpa using this, by simp, by simp, by simp, by simp, ⟨by simp, by simp⟩, ⟨by simp, by simp⟩⟩
  · split
    · exact ⟨by simp, isBytes_at c h 3, isBytes_at c h 4, isBytes_at c h 5, isBytes_at c h 6, rdN_i64 _ (h.drop 8) _ _ (by omega), rdN_i64 _ (rdR_bytes (h.drop 8) _ _) _ _ (by omega)⟩
    · exact ⟨by simp, by simp, by simp, by simp, by simp, ⟨by simp, by simp⟩, ⟨by simp, by simp⟩⟩
theorem readL_ok (b : List Int) (h : isBytes b) : okR (readL b) := read24_ok _ (pad_bytes h)

def hasP (xs ys : List Int) : Bool := decide (ys.length ≤ xs.length) && (xs.take ys.length == ys)
theorem hasP_iff (xs ys : List Int) : hasP xs ys = true ↔ ys <+: xs := by
  simp only [hasP, Bool.and_eq_true, decide_eq_true_eq, beq_iff_eq]
  rw [List.prefix_iff_eq_take]
  constructor
  · intro h; exact h.2.symm
  · intro h
    refine ⟨?_, h.symm⟩
    have := congrArg List.length h
    rw [List.length_take] at this
    omega
def decOK (b : List Int) : Bool := rightB (readL b) && hasP b (encL (readL b))
def decR (b : List Int) : RecD := if decOK b then readL b else zeroR
def decN (b : List Int) : Nat := if decOK b then (encL (readL b)).length else 0
theorem dec_of (b : List Int) (r : RecD) (h : rightB r = true) (ok : okR r) (hp : encL r <+: b) : decOK b = true ∧ decR b = r ∧ decN b = (encL r).length := by
  have e := read_prefix r h ok b hp
  have o : decOK b = true := by
    simp only [decOK, e, h, Bool.true_and]
    exact (hasP_iff _ _).2 hp
  exact ⟨o, by simp [decR, o, e], by simp [decN, o, e]⟩
theorem decOK_iff (b : List Int) : decOK b = true ↔ rightB (readL b) = true ∧ encL (readL b) <+: b := by
  simp only [decOK, Bool.and_eq_true, hasP_iff]
theorem decN_zero (b : List Int) : decN b = 0 ↔ decOK b = false := by
  unfold decN
  have := encL_bd (readL b)
  split
  · rename_i h
    rw [h]
    constructor
    · intro e; omega
    · intro e; cases e
  · rename_i h
    simp at h
    simp [h]
theorem decN_le (b : List Int) : decN b ≤ b.length := by
  unfold decN
  split
  · rename_i h
    exact ((decOK_iff b).1 h).2.length_le
  · omega
theorem decN_bd (b : List Int) : decN b = 0 ∨ (3 ≤ decN b ∧ decN b ≤ 24) := by
  unfold decN
  have := encL_bd (readL b)
  split
  · exact .inr this
  · exact .inl rfl
theorem dec_none (b : List Int) (h : ∀ r, okR r → rightB r = true → ¬ encL r <+: b) (hb : isBytes b) : decN b = 0 := by
  rw [decN_zero, Bool.eq_false_iff]
  intro e
  have := (decOK_iff b).1 e
  exact h _ (readL_ok b hb) this.1 this.2

/-! ### All -/
def posN (b : List Int) : Nat → Nat
  | 0 => 0
  | k + 1 => posN b k + decN (b.drop (posN b k))
theorem posN_succ (b : List Int) (k : Nat) : posN b (k + 1) = posN b k + decN (b.drop (posN b k)) := rfl
def recsN (b : List Int) (k : Nat) : List RecD := (List.range k).map fun i => decR (b.drop (posN b i))
theorem recsN_succ (b : List Int) (k : Nat) : recsN b (k + 1) = recsN b k ++ [decR (b.drop (posN b k))] := by simp [recsN, List.range_succ]
theorem recsN_length (b : List Int) (k : Nat) : (recsN b k).length = k := by simp [recsN]
def Goes (b : List Int) (k : Nat) : Prop := ∀ i, i < k → decN (b.drop (posN b i)) ≠ 0
def Stops (b : List Int) (k : Nat) : Prop := Goes b k ∧ decN (b.drop (posN b k)) = 0
theorem Goes.succ {b : List Int} {k : Nat} (h : Goes b k) (h2 : decN (b.drop (posN b k)) ≠ 0) : Goes b (k + 1) := fun i hi => by
  rcases Nat.lt_or_ge i k with hlt | hge
  · exact h i hlt
  · obtain rfl : i = k := by omega
    exact h2
theorem stops_one {b : List Int} {k k' : Nat} (h : Stops b k) (h' : Stops b k') : k = k' := by
  rcases Nat.lt_trichotomy k k' with hlt | e | hgt
  · exact absurd h.2 (h'.1 k hlt)
  · exact e
  · exact absurd h'.2 (h.1 k' hgt)
theorem posN_le (b : List Int) (k : Nat) : posN b k ≤ b.length := by
  induction k with
  | zero => simp [posN]
  | succ k ih =>
    have := decN_le (b.drop (posN b k))
    rw [List.length_drop] at this
    rw [posN_succ]; omega
theorem posN_ge {b : List Int} {k : Nat} (h : Goes b k) : 3 * k ≤ posN b k := by
  induction k with
  | zero => simp
  | succ k ih =>
    have h1 := ih (fun i hi => h i (by omega))
    have h2 := h k (by omega)
    have h3 := decN_bd (b.drop (posN b k))
    rw [posN_succ]; omega

/-! ### Join -/
def joinL (l : List RecD) : List Int := l.flatMap encL
theorem joinL_app (a b : List RecD) : joinL (a ++ b) = joinL a ++ joinL b := by simp [joinL]
theorem joinL_cons (r : RecD) (l : List RecD) : joinL (r :: l) = encL r ++ joinL l := by simp [joinL]
theorem joinL_snoc (l : List RecD) (r : RecD) : joinL (l ++ [r]) = joinL l ++ encL r := by simp [joinL]
theorem joinL_le (l : List RecD) : (joinL l).length ≤ 24 * l.length := by
  induction l with
  | nil => simp [joinL]
  | cons r l ih =>
    have := (encL_bd r).2
    simp only [joinL, List.flatMap_cons, List.length_append, List.length_cons] at *
    omega
theorem joinL_take_drop (l : List RecD) (k : Nat) : joinL l = joinL (l.take k) ++ joinL (l.drop k) := by
  conv => lhs; rw [← List.take_append_drop k l]
  rw [joinL_app]
theorem joinL_bytes (l : List RecD) (h : ∀ r ∈ l, okR r) : isBytes (joinL l) := by
  intro z hz
  simp only [joinL, List.mem_flatMap] at hz
  obtain ⟨r, hr, hz⟩ := hz
  exact encL_bytes r (h r hr) z hz

/-! ### records come back -/
def endsN (l : List RecD) (i : Nat) : Nat := (joinL (l.take i)).length
theorem endsN_succ (l : List RecD) (i : Nat) (h : i < l.length) : endsN l (i + 1) = endsN l i + (encL l[i]).length := by
  unfold endsN
  rw [List.take_succ_eq_append_getElem h, joinL_snoc, List.length_append]
theorem endsN_mono (l : List RecD) (i j : Nat) (h : i ≤ j) : endsN l i ≤ endsN l j := by
  unfold endsN
  have e := joinL_take_drop (l.take j) i
  rw [List.take_take, Nat.min_eq_left h] at e
  rw [e, List.length_append]
  omega
theorem rest_at (l : List RecD) (cut i : Nat) (h : endsN l i ≤ cut) : ((joinL l).take cut).drop (endsN l i) = (joinL (l.drop i)).take (cut - endsN l i) := by
  rw [List.drop_take]
  congr 1
  rw [joinL_take_drop l i]
  unfold endsN
  rw [List.drop_left]
theorem back_at (l : List RecD) (hr : ∀ r ∈ l, rightB r = true) (ok : ∀ r ∈ l, okR r) (cut i : Nat) (hi : i < l.length) (hc : endsN l (i + 1) ≤ cut) :
    decR (((joinL l).take cut).drop (endsN l i)) = l[i] ∧ decN (((joinL l).take cut).drop (endsN l i)) = (encL l[i]).length := by
  have hs := endsN_succ l i hi
  rw [rest_at l cut i (by omega)]
  have hp : encL l[i] <+: (joinL (l.drop i)).take (cut - endsN l i) := by
    have e : joinL (l.drop i) = encL l[i] ++ joinL (l.drop (i + 1)) := by
      rw [List.drop_eq_getElem_cons hi, joinL_cons]
    rw [e, List.take_append, List.take_of_length_le (by omega)]
    exact List.prefix_append _ _
  have := dec_of _ l[i] (hr _ (List.getElem_mem hi)) (ok _ (List.getElem_mem hi)) hp
  exact ⟨this.2.1, this.2.2⟩
theorem back_stop (l : List RecD) (hr : ∀ r ∈ l, rightB r = true) (ok : ∀ r ∈ l, okR r) (cut k : Nat) (hk : k ≤ l.length) (hc : endsN l k ≤ cut) (hn : k < l.length → cut < endsN l (k + 1)) :
    decN (((joinL l).take cut).drop (endsN l k)) = 0 := by
  rw [rest_at l cut k hc]
  have hbt : isBytes ((joinL (l.drop k)).take (cut - endsN l k)) := (joinL_bytes _ (fun r h => ok r (List.mem_of_mem_drop h))).take _
  refine dec_none _ (fun r okr hrr hp => ?_) hbt
  have hl := (encL_bd r).1
  rcases Nat.lt_or_ge k l.length with hlt | hge
  · have hs := endsN_succ l k hlt
    have hn := hn hlt
    have e : joinL (l.drop k) = encL l[k] ++ joinL (l.drop (k + 1)) := by
      rw [List.drop_eq_getElem_cons hlt, joinL_cons]
    rw [e, List.take_append_of_le_length (by omega)] at hp
    have hp2 : encL r <+: encL l[k] := hp.trans (List.take_prefix _ _)
    have er := enc_apart r l[k] hrr (hr _ (List.getElem_mem hlt)) okr (ok _ (List.getElem_mem hlt)) hp2
    have hle := hp.length_le
    rw [er, List.length_take] at hle
    omega
  · obtain rfl : k = l.length := by omega
    have hle := hp.length_le
    have h0 : (joinL ([] : List RecD)).length = 0 := rfl
    rw [List.drop_length, List.length_take, h0] at hle
    omega
/-- Right records come back from their bytes, cut anywhere. -/
theorem back_all (l : List RecD) (hr : ∀ r ∈ l, rightB r = true) (ok : ∀ r ∈ l, okR r) (cut k : Nat) (hk : k ≤ l.length) (hc : endsN l k ≤ cut) (hn : k < l.length → cut < endsN l (k + 1)) :
    Stops ((joinL l).take cut) k ∧ posN ((joinL l).take cut) k = endsN l k ∧ recsN ((joinL l).take cut) k = l.take k := by
  have key : ∀ i, i ≤ k → posN ((joinL l).take cut) i = endsN l i ∧ recsN ((joinL l).take cut) i = l.take i ∧ Goes ((joinL l).take cut) i := by
    intro i
    induction i with
    | zero => intro _; exact ⟨by simp [posN, endsN, joinL], by simp [recsN], fun i hi => absurd hi (by omega)⟩
    | succ i ih =>
      intro hi
      obtain ⟨h1, h2, h3⟩ := ih (by omega)
      have hlt : i < l.length := by omega
      have hm := endsN_mono l (i + 1) k hi
      have hb := back_at l hr ok cut i hlt (by omega)
      rw [← h1] at hb
      refine ⟨?_, ?_, h3.succ ?_⟩
      · rw [posN_succ, hb.2, h1, endsN_succ l i hlt]
      · rw [recsN_succ, hb.1, h2, List.take_succ_eq_append_getElem hlt]
      · have := (encL_bd l[i]).1
        rw [hb.2]; omega
  obtain ⟨h1, h2, h3⟩ := key k (Nat.le_refl _)
  refine ⟨⟨h3, ?_⟩, h1, h2⟩
  rw [h1]
  exact back_stop l hr ok cut k hk hc hn
end Go.Proofs.Ytlohogcddelekaa
