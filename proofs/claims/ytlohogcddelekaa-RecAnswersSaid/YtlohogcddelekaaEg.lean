/- Records read from bytes, as plain mathematics: a right record's bytes give that one; no record's bytes begin with another one's; what Decode and All are to answer. -/
import Derived.Test.YtlohogcddelekaaEf
namespace Go.Proofs.Ytlohogcddelekaa
set_option linter.unusedVariables false

def zeros (n : Nat) : List Int := List.replicate n 0
/-- 24 bytes, with noughts behind. -/
def pad (b : List Int) : List Int := (b ++ zeros 24).take 24
theorem pad_length (b : List Int) : (pad b).length = 24 := by simp [pad, zeros]
def rdN (zs : List Int) (f k : Nat) : Int := if f = 0 then 0 else zagI (fromN (zs.take (k + 1)))
def rdT (f : Nat) : Bool := !(f == 0)
def rdR (zs : List Int) (f k : Nat) : List Int := if f = 0 then zs else zs.drop (k + 1)
/-- A record of 24 bytes. -/
def read24 (c : List Int) : RecD :=
  let h := fromN (c.take 3)
  let k : Int := ((h % 8 : Nat) : Int) + 1
  let t : Int := ((h / 8 : Nat) : Int)
  if k = 2 ∨ k = 8 then ⟨k, t, fromN ((c.drop 3).take 2), 0, 0, 0, 0, false, 0, false, 0⟩
  else if k = 1 ∨ k = 7 then
    let f := fromN ((c.drop 7).take 1)
    let zs := c.drop 8
    ⟨k, t, 0, c[3]?.getD 0, c[4]?.getD 0, c[5]?.getD 0, c[6]?.getD 0, rdT (f % 2), rdN zs (f % 2) (f / 4 % 8), rdT (f / 2 % 2), rdN (rdR zs (f % 2) (f / 4 % 8)) (f / 2 % 2) (f / 32 % 8)⟩
  else ⟨k, t, 0, 0, 0, 0, 0, false, 0, false, 0⟩
def readL (b : List Int) : RecD := read24 (pad b)

theorem encL_length (r : RecD) : (encL r).length = 3 + (tailL r).length := by simp [encL, bytesL_length]
theorem tailL_le (r : RecD) : (tailL r).length ≤ 21 := by
  have h1 := valL_le r.oT r.oN
  have h2 := valL_le r.nT r.nN
  unfold tailL
  split
  · simp [bytesL_length]
  · split
    · simp; omega
    · simp
theorem encL_bd (r : RecD) : 3 ≤ (encL r).length ∧ (encL r).length ≤ 24 := by
  have := tailL_le r
  rw [encL_length]; omega
theorem flagsN_lt (r : RecD) : flagsN r < 256 := by
  have h1 := bitN_le r.oT
  have h2 := bitN_le r.nT
  have h3 := less_le r.oT r.oN
  have h4 := less_le r.nT r.nN
  unfold flagsN; omega
theorem encL_bytes (r : RecD) (ok : okR r) : isBytes (encL r) := by
  intro z hz
  unfold encL at hz
  rcases List.mem_append.1 hz with hz | hz
  · exact bytesL_bytes _ _ z hz
  · unfold tailL at hz
    split at hz
    · exact bytesL_bytes _ _ z hz
    · split at hz
      · simp only [List.mem_append, List.mem_cons, List.not_mem_nil, or_false] at hz
        have hf := flagsN_lt r
        rcases hz with (rfl | rfl | rfl | rfl) | rfl | hz | hz
        · exact ok.k0
        · exact ok.k1
        · exact ok.k2
        · exact ok.k3
        · omega
        · exact valL_bytes _ _ z hz
        · exact valL_bytes _ _ z hz
      · cases hz

theorem bytes3 (u : Nat) : ∃ a b c, bytesL u 3 = [a, b, c] := ⟨_, _, _, rfl⟩
theorem bytes2 (u : Nat) : ∃ a b, bytesL u 2 = [a, b] := ⟨_, _, rfl⟩
theorem head_val (r : RecD) (h : rightB r = true) : ((headN r % 8 : Nat) : Int) + 1 = r.kind ∧ ((headN r / 8 : Nat) : Int) = r.tx := by
  have := right_bd r h
  unfold headN; omega
/-- A value that stands at the beginning of bytes. -/
theorem rd_val (t : Bool) (n : Int) (hn : isI64 n) (hv : okVal t n = true) (s : List Int) :
    rdT (bitN t) = t ∧ rdN (valL t n ++ s) (bitN t) (less t n) = n ∧ rdR (valL t n ++ s) (bitN t) (less t n) = s := by
  cases t with
  | false =>
    simp [okVal] at hv
    simp [rdT, rdN, rdR, bitN, valL, hv]
  | true =>
    have hlt := zigN_lt n hn
    have hb := nb_bd (zigN n)
    have e : nb (zigN n) - 1 + 1 = nb (zigN n) := by omega
    have hl := bytesL_length (zigN n) (nb (zigN n))
    have hz : zagI (zigN n) = n := zag_zig n
    simp only [rdT, rdN, rdR, bitN, valL, less, if_true]
    simp only [e]
    refine ⟨by simp, ?_, ?_⟩
    · rw [if_neg (by decide), List.take_append_of_le_length (by omega), List.take_of_length_le (by omega), from_bytes _ _ (nb_fit _ hlt), hz]
    · rw [if_neg (by decide), List.drop_append_of_le_length (by omega), List.drop_of_length_le (by omega), List.nil_append]
theorem rdN_take (zs : List Int) (f k m : Nat) (h : k + 1 ≤ m) : rdN (zs.take m) f k = rdN zs f k := by
  unfold rdN
  rw [List.take_take, Nat.min_eq_left h]
theorem rdR_take (zs : List Int) (f k m : Nat) : rdR (zs.take m) f k = (rdR zs f k).take (if f = 0 then m else m - (k + 1)) := by
  unfold rdR
  split
  · rfl
  · rw [List.drop_take]
theorem read_enc_keyed (r : RecD) (h : rightB r = true) (ok : okR r) (hv1 : okVal r.oT r.oN = true) (hv2 : okVal r.nT r.nN = true) (hm : r.mask = 0) (hk : r.kind = 1 ∨ r.kind = 7) (s : List Int) : read24 ((encL r ++ s).take 24) = r := by
  obtain ⟨a, b, c, hb⟩ := bytes3 (headN r)
  have hf := flagsN_lt r
  have hh : fromN [a, b, c] = headN r := by rw [← hb]; exact from_bytes 3 _ (by have := headN_lt r h; simp; omega)
  have hd := head_val r h
  have l3 := less_le r.oT r.oN
  have l4 := less_le r.nT r.nN
  have b3 := bitN_le r.oT
  have b4 := bitN_le r.nT
  have g1 : flagsN r % 2 = bitN r.oT := by unfold flagsN; omega
  have g2 : flagsN r / 2 % 2 = bitN r.nT := by unfold flagsN; omega
  have g3 : flagsN r / 4 % 8 = less r.oT r.oN := by unfold flagsN; omega
  have g4 : flagsN r / 32 % 8 = less r.nT r.nN := by unfold flagsN; omega
  have e : encL r ++ s = [a, b, c, r.k0, r.k1, r.k2, r.k3, (flagsN r : Int)] ++ (valL r.oT r.oN ++ (valL r.nT r.nN ++ s)) := by
    have hk2 : ¬ (r.kind = 2 ∨ r.kind = 8) := by omega
    simp [encL, tailL, hk2, hk, hb]
  have v1 := rd_val r.oT r.oN ok.oN hv1 (valL r.nT r.nN ++ s)
  have v2 := rd_val r.nT r.nN ok.nN hv2 s
  rw [e]
  have ff : fromN [(flagsN r : Int)] = flagsN r := by simp [fromN]
  generalize hX : valL r.oT r.oN ++ (valL r.nT r.nN ++ s) = X at *
  have e2 : (([a, b, c, r.k0, r.k1, r.k2, r.k3, (flagsN r : Int)] ++ X).take 24) = [a, b, c, r.k0, r.k1, r.k2, r.k3, (flagsN r : Int)] ++ X.take 16 := by
    rw [List.take_append]; rfl
  rw [e2]
  unfold read24
  simp only [List.cons_append, List.nil_append, List.take_succ_cons, List.take_zero, List.drop_succ_cons, List.drop_zero, List.getElem?_cons_succ, List.getElem?_cons_zero, Option.getD_some, hh, hd.1, hd.2, ff]
  rw [if_neg (by omega), if_pos hk, g1, g2, g3, g4, rdN_take _ _ _ _ (by omega), rdR_take, rdN_take _ _ _ _ (by split <;> omega), v1.1, v1.2.1, v1.2.2, v2.1, v2.2.1]
  obtain ⟨kind, tx, mask, k0, k1, k2, k3, oT, oN, nT, nN⟩ := r
  simp at hm
  subst hm
  rfl
theorem read_enc_mask (r : RecD) (h : rightB r = true) (ok : okR r) (hk : r.kind = 2 ∨ r.kind = 8) (he : r = ⟨r.kind, r.tx, r.mask, 0, 0, 0, 0, false, 0, false, 0⟩) (s : List Int) : read24 ((encL r ++ s).take 24) = r := by
  obtain ⟨a, b, c, hb⟩ := bytes3 (headN r)
  obtain ⟨d, f, hb2⟩ := bytes2 r.mask
  have hh : fromN [a, b, c] = headN r := by rw [← hb]; exact from_bytes 3 _ (by have := headN_lt r h; simp; omega)
  have hm : fromN [d, f] = r.mask := by rw [← hb2]; exact from_bytes 2 _ (by have := ok.mask; simp; omega)
  have hd := head_val r h
  have e : encL r ++ s = [a, b, c, d, f] ++ s := by simp [encL, tailL, hk, hb, hb2]
  have e2 : (([a, b, c, d, f] ++ s).take 24) = [a, b, c, d, f] ++ s.take 19 := by rw [List.take_append]; rfl
  rw [e, e2]
  unfold read24
  simp only [List.cons_append, List.nil_append, List.take_succ_cons, List.take_zero, List.drop_succ_cons, List.drop_zero, hh, hd.1, hd.2, hm]
  rw [if_pos hk]
  exact he.symm
theorem read_enc_plain (r : RecD) (h : rightB r = true) (hk : ¬ (r.kind = 2 ∨ r.kind = 8)) (hk2 : ¬ (r.kind = 1 ∨ r.kind = 7)) (he : r = ⟨r.kind, r.tx, 0, 0, 0, 0, 0, false, 0, false, 0⟩) (s : List Int) : read24 ((encL r ++ s).take 24) = r := by
  obtain ⟨a, b, c, hb⟩ := bytes3 (headN r)
  have hh : fromN [a, b, c] = headN r := by rw [← hb]; exact from_bytes 3 _ (by have := headN_lt r h; simp; omega)
  have hd := head_val r h
  have e : encL r ++ s = [a, b, c] ++ s := by simp [encL, tailL, hk, hk2, hb]
  have e2 : (([a, b, c] ++ s).take 24) = [a, b, c] ++ s.take 21 := by rw [List.take_append]; rfl
  rw [e, e2]
  unfold read24
  simp only [List.cons_append, List.nil_append, List.take_succ_cons, List.take_zero, hh, hd.1, hd.2]
  rw [if_neg hk, if_neg hk2]
  exact he.symm
theorem right_shape (r : RecD) (h : rightB r = true) :
    ((r.kind = 1 ∨ r.kind = 7) ∧ okVal r.oT r.oN = true ∧ okVal r.nT r.nN = true ∧ r.mask = 0) ∨ ((r.kind = 2 ∨ r.kind = 8) ∧ r = ⟨r.kind, r.tx, r.mask, 0, 0, 0, 0, false, 0, false, 0⟩) ∨
    (¬ (r.kind = 2 ∨ r.kind = 8) ∧ ¬ (r.kind = 1 ∨ r.kind = 7) ∧ r = ⟨r.kind, r.tx, 0, 0, 0, 0, 0, false, 0, false, 0⟩) := by
  unfold rightB at h
  split at h
  · rename_i hk
    simp only [Bool.and_eq_true, beq_iff_eq] at h
    exact .inl ⟨.inl hk, h.2.2.1, h.2.2.2, by omega⟩
  · split at h
    · rename_i hk
      simp only [Bool.and_eq_true, eqR_iff] at h
      exact .inr (.inl ⟨.inl hk, h.2.2⟩)
    · split at h
      · rename_i hk
        simp only [Bool.and_eq_true, eqR_iff] at h
        exact .inr (.inr ⟨by omega, by omega, h.2⟩)
      · split at h
        · rename_i hk
          simp only [Bool.and_eq_true, eqR_iff] at h
          have e := h.2
          refine .inl ⟨.inr hk, ?_, ?_, ?_⟩
          · rw [e]; rfl
          · simp [okVal, h.1]
          · rw [e]
        · split at h
          · rename_i hk
            simp only [Bool.and_eq_true, eqR_iff] at h
            have e := h.2
            refine .inr (.inl ⟨.inr hk, ?_⟩)
            have et : r.tx = 0 := by rw [e]
            rw [et]; exact e
          · cases h
theorem read_enc (r : RecD) (h : rightB r = true) (ok : okR r) (s : List Int) : read24 ((encL r ++ s).take 24) = r := by
  rcases right_shape r h with ⟨hk, h1, h2, h3⟩ | ⟨hk, he⟩ | ⟨hk, hk2, he⟩
  · exact read_enc_keyed r h ok h1 h2 h3 hk s
  · exact read_enc_mask r h ok hk he s
  · exact read_enc_plain r h hk hk2 he s
/-- A right record that stands at the beginning of bytes is the one that is read. -/
theorem read_prefix (r : RecD) (h : rightB r = true) (ok : okR r) (b : List Int) (hp : encL r <+: b) : readL b = r := by
  obtain ⟨t, rfl⟩ := hp
  unfold readL pad
  rw [List.append_assoc]
  exact read_enc r h ok _
/-- No record's bytes begin with another one's. -/
theorem enc_apart (r s : RecD) (hr : rightB r = true) (hs : rightB s = true) (okr : okR r) (oks : okR s) (hp : encL r <+: encL s) : r = s :=
  (read_prefix r hr okr _ hp).symm.trans (read_prefix s hs oks _ (List.prefix_refl _))
end Go.Proofs.Ytlohogcddelekaa
