/- The document's own Decode as plain mathematics: what it reads, how many bytes it takes, and that its answer is decR, decN. -/
import Derived.Test.YtlohogcddelekaaEh
namespace Go.Proofs.Ytlohogcddelekaa
set_option linter.unusedVariables false

/-- How many bytes the document's Decode takes, as its head and its flags say. -/
def lenN (b : List Int) : Nat :=
  let k : Int := ((fromN (b.take 3) % 8 : Nat) : Int) + 1
  let f := fromN ((b.drop 7).take 1)
  if k = 2 ∨ k = 8 then 5
  else if k = 1 ∨ k = 7 then 8 + (if f % 2 = 1 then f / 4 % 8 + 1 else 0) + (if f / 2 % 2 = 1 then f / 32 % 8 + 1 else 0)
  else 3
theorem read24_take (c : List Int) : read24 (c.take 24) = read24 c := by
  have e7 : ((c.take 24).drop 7).take 1 = (c.drop 7).take 1 := by rw [List.drop_take, List.take_take]; rfl
  have e3 : ((c.take 24).drop 3).take 2 = (c.drop 3).take 2 := by rw [List.drop_take, List.take_take]; rfl
  have e0 : (c.take 24).take 3 = c.take 3 := by rw [List.take_take]; rfl
  have e8 : (c.take 24).drop 8 = (c.drop 8).take 16 := by rw [List.drop_take]
  have g3 : (c.take 24)[3]? = c[3]? := by rw [List.getElem?_take]; rfl
  have g4 : (c.take 24)[4]? = c[4]? := by rw [List.getElem?_take]; rfl
  have g5 : (c.take 24)[5]? = c[5]? := by rw [List.getElem?_take]; rfl
  have g6 : (c.take 24)[6]? = c[6]? := by rw [List.getElem?_take]; rfl
  have h1 : fromN ((c.drop 7).take 1) / 4 % 8 + 1 ≤ 16 := by omega
  have h2 : fromN ((c.drop 7).take 1) / 32 % 8 + 1 ≤ 8 := by omega
  unfold read24
  simp only [e7, e3, e0, e8, g3, g4, g5, g6]
  rw [rdN_take _ _ _ _ h1, rdR_take, rdN_take _ _ _ _ (by split <;> omega)]
theorem val_size (t : Bool) (n : Int) : (if bitN t = 1 then less t n + 1 else 0) = (valL t n).length := by
  have hb := nb_bd (zigN n)
  cases t
  · simp [bitN, valL]
  · simp [bitN, valL, less, bytesL_length]; omega
theorem len_enc (r : RecD) (h : rightB r = true) (ok : okR r) (s : List Int) : lenN (encL r ++ s) = (encL r).length := by
  obtain ⟨a, b, c, hb⟩ := bytes3 (headN r)
  have hh : fromN [a, b, c] = headN r := by rw [← hb]; exact from_bytes 3 _ (by have := headN_lt r h; simp; omega)
  have hd := head_val r h
  have l3 := less_le r.oT r.oN
  have l4 := less_le r.nT r.nN
  have b3 := bitN_le r.oT
  have b4 := bitN_le r.nT
  have g1 : flagsN r % 2 = bitN r.oT := by unfold flagsN; omega
  have g2 : flagsN r / 2 % 2 = bitN r.nT := by unfold flagsN; omega
  have g3 : flagsN r / 4 % 8 = less r.oT r.oN := by unfold flagsN; omega
  have g4 : flagsN r / 32 % 8 = less r.nT r.nN := by unfold flagsN; omega
  have ff : fromN [(flagsN r : Int)] = flagsN r := by simp [fromN]
  unfold lenN encL
  rw [hb]
  simp only [List.cons_append, List.nil_append, List.take_succ_cons, List.take_zero, List.drop_succ_cons, hh, hd.1]
  by_cases hk : r.kind = 2 ∨ r.kind = 8
  · rw [if_pos hk]
    simp [tailL, hk, bytesL_length]
  · rw [if_neg hk]
    by_cases hk2 : r.kind = 1 ∨ r.kind = 7
    · rw [if_pos hk2]
      simp only [tailL, if_neg hk, if_pos hk2, List.cons_append, List.nil_append, List.take_succ_cons, List.take_zero, List.drop_succ_cons, List.drop_zero, ff, g1, g2, g3, g4, val_size, List.length_cons, List.length_append]
      omega
    · rw [if_neg hk2]
      simp [tailL, hk, hk2]
/-- Where bytes begin with a right record's bytes, the document's Decode reads that one, and takes so many bytes. -/
theorem dec_ref (b : List Int) (hb : isBytes b) (h : decOK b = true) : rightB (read24 b) = true ∧ lenN b ≤ b.length ∧ encL (read24 b) = b.take (lenN b) := by
  obtain ⟨h1, h2⟩ := (decOK_iff b).1 h
  have ok := readL_ok b hb
  generalize readL b = s at *
  obtain ⟨t, rfl⟩ := h2
  have e1 : read24 (encL s ++ t) = s := by rw [← read24_take]; exact read_enc s h1 ok t
  rw [e1, len_enc s h1 ok t]
  exact ⟨h1, by simp, by simp⟩
theorem ref_short (b : List Int) (hb : isBytes b) (h : b.length < 3 ∨ b.length < lenN b) : decR b = zeroR ∧ decN b = 0 := by
  have o : decOK b = false := by
    rw [Bool.eq_false_iff]
    intro e
    have h2 := dec_ref b hb e
    have h3 := decN_le b
    have h4 := decN_bd b
    have h5 : decN b ≠ 0 := fun e0 => by rw [(decN_zero b).1 e0] at e; cases e
    omega
  exact ⟨by simp [decR, o], by simp [decN, o]⟩
theorem ref_other (b : List Int) (hb : isBytes b) (h : ¬ (rightB (read24 b) = true ∧ encL (read24 b) = b.take (lenN b))) : decR b = zeroR ∧ decN b = 0 := by
  have o : decOK b = false := by
    rw [Bool.eq_false_iff]
    intro e
    have h2 := dec_ref b hb e
    exact h ⟨h2.1, h2.2.2⟩
  exact ⟨by simp [decR, o], by simp [decN, o]⟩
theorem ref_yes (b : List Int) (hb : isBytes b) (hl : lenN b ≤ b.length) (h1 : rightB (read24 b) = true) (h2 : encL (read24 b) = b.take (lenN b)) : decR b = read24 b ∧ decN b = lenN b := by
  have h := dec_of b (read24 b) h1 (read24_ok b hb) (by rw [h2]; exact List.take_prefix _ _)
  refine ⟨h.2.1, ?_⟩
  rw [h.2.2, h2, List.length_take]; omega
end Go.Proofs.Ytlohogcddelekaa
