/- Records read from bytes, as plain mathematics: a right record's bytes give that one; no record's bytes begin with another one's; what Decode and All are to answer. What Decode, All and Join are to answer, as plain mathematics; records come back from their bytes, cut anywhere. bytes.Equal, over Gc (for any stage): the part of Sl that needs nothing of layer 2: never import both. bytes.HasPrefix; numbers of the first bytes (rec.unpacked); a value of bytes (rec.readVal). rec.readVal: a value, and the bytes behind its own. -/
import Derived.Test.YtdmkkfpbgpijjaaGreatWai
import Derived.Test.YtdmkkfpbgpijjaaGreatWaa
import Derived.Lib.SliceRun
import Derived.Lib.Bytes
import Derived.Laws.BytesArg
namespace Go.Proofs.YtdmkkfpbgpijjaaGreat
set_option linter.unusedVariables false

def zeros (n : Nat) : List Int := List.replicate n 0
/-- 24 bytes, with noughts behind. -/
def pad (b : List Int) : List Int := (b ++ zeros 24).take 24
theorem pad_length (b : List Int) : (pad b).length = 24 := by simp [pad, zeros]
def rdN (zs : List Int) (f k : Nat) : Int := if f = 0 then 0 else zagI (fromN (zs.take (k + 1)))
def rdT (f : Nat) : Bool := !(f == 0)
def rdR (zs : List Int) (f k : Nat) : List Int := if f = 0 then zs else zs.drop (k + 1)
/-- A record of 24 bytes. -/
def read24 (c : List Int) : RecD :=
  let h := fromN (c.take 3)
  let k : Int := ((h % 8 : Nat) : Int) + 1
  let t : Int := ((h / 8 : Nat) : Int)
  if k = 2 ∨ k = 8 then ⟨k, t, fromN ((c.drop 3).take 2), 0, 0, 0, 0, false, 0, false, 0⟩
  else if k = 1 ∨ k = 7 then
    let f := fromN ((c.drop 7).take 1)
    let zs := c.drop 8
    ⟨k, t, 0, c[3]?.getD 0, c[4]?.getD 0, c[5]?.getD 0, c[6]?.getD 0, rdT (f % 2), rdN zs (f % 2) (f / 4 % 8), rdT (f / 2 % 2), rdN (rdR zs (f % 2) (f / 4 % 8)) (f / 2 % 2) (f / 32 % 8)⟩
  else ⟨k, t, 0, 0, 0, 0, 0, false, 0, false, 0⟩
def readL (b : List Int) : RecD := read24 (pad b)

theorem encL_length (r : RecD) : (encL r).length = 3 + (tailL r).length := by simp [encL, bytesL_length]
theorem tailL_le (r : RecD) : (tailL r).length ≤ 21 := by
  have h1 := valL_le r.oT r.oN
  have h2 := valL_le r.nT r.nN
  unfold tailL
  split
  · simp [bytesL_length]
  · split
    · simp; omega
    · simp
theorem encL_bd (r : RecD) : 3 ≤ (encL r).length ∧ (encL r).length ≤ 24 := by
  have := tailL_le r
  rw [encL_length]; omega
theorem flagsN_lt (r : RecD) : flagsN r < 256 := by
  have h1 := bitN_le r.oT
  have h2 := bitN_le r.nT
  have h3 := less_le r.oT r.oN
  have h4 := less_le r.nT r.nN
  unfold flagsN; omega
theorem encL_bytes (r : RecD) (ok : okR r) : isBytes (encL r) := by
  intro z hz
  unfold encL at hz
  rcases List.mem_append.1 hz with hz | hz
  · exact bytesL_bytes _ _ z hz
  · unfold tailL at hz
    split at hz
    · exact bytesL_bytes _ _ z hz
    · split at hz
      · simp only [List.mem_append, List.mem_cons, List.not_mem_nil, or_false] at hz
        have hf := flagsN_lt r
        rcases hz with (rfl | rfl | rfl | rfl) | rfl | hz | hz
        · exact ok.k0
        · exact ok.k1
        · exact ok.k2
        · exact ok.k3
        · omega
        · exact valL_bytes _ _ z hz
        · exact valL_bytes _ _ z hz
      · cases hz

theorem bytes3 (u : Nat) : ∃ a b c, bytesL u 3 = [a, b, c] := ⟨_, _, _, rfl⟩
theorem bytes2 (u : Nat) : ∃ a b, bytesL u 2 = [a, b] := ⟨_, _, rfl⟩
theorem head_val (r : RecD) (h : rightB r = true) : ((headN r % 8 : Nat) : Int) + 1 = r.kind ∧ ((headN r / 8 : Nat) : Int) = r.tx := by
  have := right_bd r h
  unfold headN; omega
/-- A value that stands at the beginning of bytes. -/
theorem rd_val (t : Bool) (n : Int) (hn : isI64 n) (hv : okVal t n = true) (s : List Int) :
    rdT (bitN t) = t ∧ rdN (valL t n ++ s) (bitN t) (less t n) = n ∧ rdR (valL t n ++ s) (bitN t) (less t n) = s := by
  cases t with
  | false =>
    simp [okVal] at hv
    simp [rdT, rdN, rdR, bitN, valL, hv]
  | true =>
    have hlt := zigN_lt n hn
    have hb := nb_bd (zigN n)
    have e : nb (zigN n) - 1 + 1 = nb (zigN n) := by omega
    have hl := bytesL_length (zigN n) (nb (zigN n))
    have hz : zagI (zigN n) = n := zag_zig n
    simp only [rdT, rdN, rdR, bitN, valL, less, if_true]
    simp only [e]
    refine ⟨by simp, ?_, ?_⟩
    · rw [if_neg (by decide), List.take_append_of_le_length (by omega), List.take_of_length_le (by omega), from_bytes _ _ (nb_fit _ hlt), hz]
    · rw [if_neg (by decide), List.drop_append_of_le_length (by omega), List.drop_of_length_le (by omega), List.nil_append]
theorem rdN_take (zs : List Int) (f k m : Nat) (h : k + 1 ≤ m) : rdN (zs.take m) f k = rdN zs f k := by
  unfold rdN
  rw [List.take_take, Nat.min_eq_left h]
theorem rdR_take (zs : List Int) (f k m : Nat) : rdR (zs.take m) f k = (rdR zs f k).take (if f = 0 then m else m - (k + 1)) := by
  unfold rdR
  split
  · rfl
  · rw [List.drop_take]
theorem read_enc_keyed (r : RecD) (h : rightB r = true) (ok : okR r) (hv1 : okVal r.oT r.oN = true) (hv2 : okVal r.nT r.nN = true) (hm : r.mask = 0) (hk : r.kind = 1 ∨ r.kind = 7) (s : List Int) : read24 ((encL r ++ s).take 24) = r := by
  obtain ⟨a, b, c, hb⟩ := bytes3 (headN r)
  have hf := flagsN_lt r
  have hh : fromN [a, b, c] = headN r := by rw [← hb]; exact from_bytes 3 _ (by have := headN_lt r h; simp; omega)
  have hd := head_val r h
  have l3 := less_le r.oT r.oN
  have l4 := less_le r.nT r.nN
  have b3 := bitN_le r.oT
  have b4 := bitN_le r.nT
  have g1 : flagsN r % 2 = bitN r.oT := by unfold flagsN; omega
  have g2 : flagsN r / 2 % 2 = bitN r.nT := by unfold flagsN; omega
  have g3 : flagsN r / 4 % 8 = less r.oT r.oN := by unfold flagsN; omega
  have g4 : flagsN r / 32 % 8 = less r.nT r.nN := by unfold flagsN; omega
  have e : encL r ++ s = [a, b, c, r.k0, r.k1, r.k2, r.k3, (flagsN r : Int)] ++ (valL r.oT r.oN ++ (valL r.nT r.nN ++ s)) := by
    have hk2 : ¬ (r.kind = 2 ∨ r.kind = 8) := by omega
    simp [encL, tailL, hk2, hk, hb]
  have v1 := rd_val r.oT r.oN ok.oN hv1 (valL r.nT r.nN ++ s)
  have v2 := rd_val r.nT r.nN ok.nN hv2 s
  rw [e]
  have ff : fromN [(flagsN r : Int)] = flagsN r := by simp [fromN]
  generalize hX : valL r.oT r.oN ++ (valL r.nT r.nN ++ s) = X at *
  have e2 : (([a, b, c, r.k0, r.k1, r.k2, r.k3, (flagsN r : Int)] ++ X).take 24) = [a, b, c, r.k0, r.k1, r.k2, r.k3, (flagsN r : Int)] ++ X.take 16 := by
    rw [List.take_append]; rfl
  rw [e2]
  unfold read24
  simp only [List.cons_append, List.nil_append, List.take_succ_cons, List.take_zero, List.drop_succ_cons, List.drop_zero, List.getElem?_cons_succ, List.getElem?_cons_zero, Option.getD_some, hh, hd.1, hd.2, ff]
  rw [if_neg (by omega), if_pos hk, g1, g2, g3, g4, rdN_take _ _ _ _ (by omega), rdR_take, rdN_take _ _ _ _ (by split <;> omega), v1.1, v1.2.1, v1.2.2, v2.1, v2.2.1]
  obtain ⟨kind, tx, mask, k0, k1, k2, k3, oT, oN, nT, nN⟩ := r
  simp at hm
  subst hm
  rfl
theorem read_enc_mask (r : RecD) (h : rightB r = true) (ok : okR r) (hk : r.kind = 2 ∨ r.kind = 8) (he : r = ⟨r.kind, r.tx, r.mask, 0, 0, 0, 0, false, 0, false, 0⟩) (s : List Int) : read24 ((encL r ++ s).take 24) = r := by
  obtain ⟨a, b, c, hb⟩ := bytes3 (headN r)
  obtain ⟨d, f, hb2⟩ := bytes2 r.mask
  have hh : fromN [a, b, c] = headN r := by rw [← hb]; exact from_bytes 3 _ (by have := headN_lt r h; simp; omega)
  have hm : fromN [d, f] = r.mask := by rw [← hb2]; exact from_bytes 2 _ (by have := ok.mask; simp; omega)
  have hd := head_val r h
  have e : encL r ++ s = [a, b, c, d, f] ++ s := by simp [encL, tailL, hk, hb, hb2]
  have e2 : (([a, b, c, d, f] ++ s).take 24) = [a, b, c, d, f] ++ s.take 19 := by rw [List.take_append]; rfl
  rw [e, e2]
  unfold read24
  simp only [List.cons_append, List.nil_append, List.take_succ_cons, List.take_zero, List.drop_succ_cons, List.drop_zero, hh, hd.1, hd.2, hm]
  rw [if_pos hk]
  exact he.symm
theorem read_enc_plain (r : RecD) (h : rightB r = true) (hk : ¬ (r.kind = 2 ∨ r.kind = 8)) (hk2 : ¬ (r.kind = 1 ∨ r.kind = 7)) (he : r = ⟨r.kind, r.tx, 0, 0, 0, 0, 0, false, 0, false, 0⟩) (s : List Int) : read24 ((encL r ++ s).take 24) = r := by
  obtain ⟨a, b, c, hb⟩ := bytes3 (headN r)
  have hh : fromN [a, b, c] = headN r := by rw [← hb]; exact from_bytes 3 _ (by have := headN_lt r h; simp; omega)
  have hd := head_val r h
  have e : encL r ++ s = [a, b, c] ++ s := by simp [encL, tailL, hk, hk2, hb]
  have e2 : (([a, b, c] ++ s).take 24) = [a, b, c] ++ s.take 21 := by rw [List.take_append]; rfl
  rw [e, e2]
  unfold read24
  simp only [List.cons_append, List.nil_append, List.take_succ_cons, List.take_zero, hh, hd.1, hd.2]
  rw [if_neg hk, if_neg hk2]
  exact he.symm
theorem right_shape (r : RecD) (h : rightB r = true) :
    ((r.kind = 1 ∨ r.kind = 7) ∧ okVal r.oT r.oN = true ∧ okVal r.nT r.nN = true ∧ r.mask = 0) ∨ ((r.kind = 2 ∨ r.kind = 8) ∧ r = ⟨r.kind, r.tx, r.mask, 0, 0, 0, 0, false, 0, false, 0⟩) ∨
    (¬ (r.kind = 2 ∨ r.kind = 8) ∧ ¬ (r.kind = 1 ∨ r.kind = 7) ∧ r = ⟨r.kind, r.tx, 0, 0, 0, 0, 0, false, 0, false, 0⟩) := by
  unfold rightB at h
  split at h
  · rename_i hk
    simp only [Bool.and_eq_true, beq_iff_eq] at h
    exact .inl ⟨.inl hk, h.2.2.1, h.2.2.2, by omega⟩
  · split at h
    · rename_i hk
      simp only [Bool.and_eq_true, eqR_iff] at h
      exact .inr (.inl ⟨.inl hk, h.2.2⟩)
    · split at h
      · rename_i hk
        simp only [Bool.and_eq_true, eqR_iff] at h
        exact .inr (.inr ⟨by omega, by omega, h.2⟩)
      · split at h
        · rename_i hk
          simp only [Bool.and_eq_true, eqR_iff] at h
          have e := h.2
          refine .inl ⟨.inr hk, ?_, ?_, ?_⟩
          · rw [e]; rfl
          · simp [okVal, h.1]
          · rw [e]
        · split at h
          · rename_i hk
            simp only [Bool.and_eq_true, eqR_iff] at h
            have e := h.2
            refine .inr (.inl ⟨.inr hk, ?_⟩)
            have et : r.tx = 0 := by rw [e]
            rw [et]; exact e
          · cases h
theorem read_enc (r : RecD) (h : rightB r = true) (ok : okR r) (s : List Int) : read24 ((encL r ++ s).take 24) = r := by
  rcases right_shape r h with ⟨hk, h1, h2, h3⟩ | ⟨hk, he⟩ | ⟨hk, hk2, he⟩
  · exact read_enc_keyed r h ok h1 h2 h3 hk s
  · exact read_enc_mask r h ok hk he s
  · exact read_enc_plain r h hk hk2 he s
/-- A right record that stands at the beginning of bytes is the one that is read. -/
theorem read_prefix (r : RecD) (h : rightB r = true) (ok : okR r) (b : List Int) (hp : encL r <+: b) : readL b = r := by
  obtain ⟨t, rfl⟩ := hp
  unfold readL pad
  rw [List.append_assoc]
  exact read_enc r h ok _
/-- No record's bytes begin with another one's. -/
theorem enc_apart (r s : RecD) (hr : rightB r = true) (hs : rightB s = true) (okr : okR r) (oks : okR s) (hp : encL r <+: encL s) : r = s :=
  (read_prefix r hr okr _ hp).symm.trans (read_prefix s hs oks _ (List.prefix_refl _))
end Go.Proofs.YtdmkkfpbgpijjaaGreat
namespace Go.Proofs.YtdmkkfpbgpijjaaGreat
set_option linter.unusedVariables false

theorem isBytes.take {zs : List Int} (h : isBytes zs) (n : Nat) : isBytes (zs.take n) := fun z hz => h z (List.mem_of_mem_take hz)
theorem isBytes.drop {zs : List Int} (h : isBytes zs) (n : Nat) : isBytes (zs.drop n) := fun z hz => h z (List.mem_of_mem_drop hz)
theorem isBytes.append {xs ys : List Int} (h : isBytes xs) (k : isBytes ys) : isBytes (xs ++ ys) := fun z hz => (List.mem_append.1 hz).elim (h z) (k z)
theorem zeros_bytes (n : Nat) : isBytes (zeros n) := fun z hz => by
  have := (List.mem_replicate.1 hz).2
  omega
theorem pad_bytes {b : List Int} (h : isBytes b) : isBytes (pad b) := (h.append (zeros_bytes 24)).take 24
theorem fromN_8 (zs : List Int) (h : isBytes zs) (n : Nat) (hn : n ≤ 8) : fromN (zs.take n) < 18446744073709551616 := by
  have h1 := fromN_lt (zs.take n) (h.take n)
  have h2 : 256 ^ (zs.take n).length ≤ 256 ^ 8 := Nat.pow_le_pow_right (by decide) (by rw [List.length_take]; omega)
  omega
theorem fromN_k (zs : List Int) (h : isBytes zs) (n : Nat) : fromN (zs.take n) < 256 ^ n := by
  have h1 := fromN_lt (zs.take n) (h.take n)
  have h2 : 256 ^ (zs.take n).length ≤ 256 ^ n := Nat.pow_le_pow_right (by decide) (by rw [List.length_take]; omega)
  omega
theorem rdN_i64 (zs : List Int) (h : isBytes zs) (f k : Nat) (hk : k ≤ 7) : isI64 (rdN zs f k) := by
  unfold rdN
  split
  · exact ⟨by omega, by omega⟩
  · have := zag_bounds _ (fromN_8 zs h (k + 1) (by omega))
    exact ⟨this.1, by omega⟩
theorem rdR_bytes {zs : List Int} (h : isBytes zs) (f k : Nat) : isBytes (rdR zs f k) := by
  unfold rdR
  split
  · exact h
  · exact h.drop _
theorem read24_ok (c : List Int) (h : isBytes c) : okR (read24 c) := by
  unfold read24
  dsimp only
  split
  · have := fromN_k (c.drop 3) (h.drop 3) 2
    exact ⟨by simpa using this, by simp, by simp, by simp, by simp, ⟨by simp, by simp⟩, ⟨by simp, by simp⟩⟩
  · split
    · exact ⟨by simp, isBytes_at c h 3, isBytes_at c h 4, isBytes_at c h 5, isBytes_at c h 6, rdN_i64 _ (h.drop 8) _ _ (by omega), rdN_i64 _ (rdR_bytes (h.drop 8) _ _) _ _ (by omega)⟩
    · exact ⟨by simp, by simp, by simp, by simp, by simp, ⟨by simp, by simp⟩, ⟨by simp, by simp⟩⟩
theorem readL_ok (b : List Int) (h : isBytes b) : okR (readL b) := read24_ok _ (pad_bytes h)

def hasP (xs ys : List Int) : Bool := decide (ys.length ≤ xs.length) && (xs.take ys.length == ys)
theorem hasP_iff (xs ys : List Int) : hasP xs ys = true ↔ ys <+: xs := by
  simp only [hasP, Bool.and_eq_true, decide_eq_true_eq, beq_iff_eq]
  rw [List.prefix_iff_eq_take]
  constructor
  · intro h; exact h.2.symm
  · intro h
    refine ⟨?_, h.symm⟩
    have := congrArg List.length h
    rw [List.length_take] at this
    omega
def decOK (b : List Int) : Bool := rightB (readL b) && hasP b (encL (readL b))
def decR (b : List Int) : RecD := if decOK b then readL b else zeroR
def decN (b : List Int) : Nat := if decOK b then (encL (readL b)).length else 0
theorem dec_of (b : List Int) (r : RecD) (h : rightB r = true) (ok : okR r) (hp : encL r <+: b) : decOK b = true ∧ decR b = r ∧ decN b = (encL r).length := by
  have e := read_prefix r h ok b hp
  have o : decOK b = true := by
    simp only [decOK, e, h, Bool.true_and]
    exact (hasP_iff _ _).2 hp
  exact ⟨o, by simp [decR, o, e], by simp [decN, o, e]⟩
theorem decOK_iff (b : List Int) : decOK b = true ↔ rightB (readL b) = true ∧ encL (readL b) <+: b := by
  simp only [decOK, Bool.and_eq_true, hasP_iff]
theorem decN_zero (b : List Int) : decN b = 0 ↔ decOK b = false := by
  unfold decN
  have := encL_bd (readL b)
  split
  · rename_i h
    rw [h]
    constructor
    · intro e; omega
    · intro e; cases e
  · rename_i h
    simp at h
    simp [h]
theorem decN_le (b : List Int) : decN b ≤ b.length := by
  unfold decN
  split
  · rename_i h
    exact ((decOK_iff b).1 h).2.length_le
  · omega
theorem decN_bd (b : List Int) : decN b = 0 ∨ (3 ≤ decN b ∧ decN b ≤ 24) := by
  unfold decN
  have := encL_bd (readL b)
  split
  · exact .inr this
  · exact .inl rfl
theorem dec_none (b : List Int) (h : ∀ r, okR r → rightB r = true → ¬ encL r <+: b) (hb : isBytes b) : decN b = 0 := by
  rw [decN_zero, Bool.eq_false_iff]
  intro e
  have := (decOK_iff b).1 e
  exact h _ (readL_ok b hb) this.1 this.2

/-! ### All -/
def posN (b : List Int) : Nat → Nat
  | 0 => 0
  | k + 1 => posN b k + decN (b.drop (posN b k))
theorem posN_succ (b : List Int) (k : Nat) : posN b (k + 1) = posN b k + decN (b.drop (posN b k)) := rfl
def recsN (b : List Int) (k : Nat) : List RecD := (List.range k).map fun i => decR (b.drop (posN b i))
theorem recsN_succ (b : List Int) (k : Nat) : recsN b (k + 1) = recsN b k ++ [decR (b.drop (posN b k))] := by simp [recsN, List.range_succ]
theorem recsN_length (b : List Int) (k : Nat) : (recsN b k).length = k := by simp [recsN]
def Goes (b : List Int) (k : Nat) : Prop := ∀ i, i < k → decN (b.drop (posN b i)) ≠ 0
def Stops (b : List Int) (k : Nat) : Prop := Goes b k ∧ decN (b.drop (posN b k)) = 0
theorem Goes.succ {b : List Int} {k : Nat} (h : Goes b k) (h2 : decN (b.drop (posN b k)) ≠ 0) : Goes b (k + 1) := fun i hi => by
  rcases Nat.lt_or_ge i k with hlt | hge
  · exact h i hlt
  · obtain rfl : i = k := by omega
    exact h2
theorem stops_one {b : List Int} {k k' : Nat} (h : Stops b k) (h' : Stops b k') : k = k' := by
  rcases Nat.lt_trichotomy k k' with hlt | e | hgt
  · exact absurd h.2 (h'.1 k hlt)
  · exact e
  · exact absurd h'.2 (h.1 k' hgt)
theorem posN_le (b : List Int) (k : Nat) : posN b k ≤ b.length := by
  induction k with
  | zero => simp [posN]
  | succ k ih =>
    have := decN_le (b.drop (posN b k))
    rw [List.length_drop] at this
    rw [posN_succ]; omega
theorem posN_ge {b : List Int} {k : Nat} (h : Goes b k) : 3 * k ≤ posN b k := by
  induction k with
  | zero => simp
  | succ k ih =>
    have h1 := ih (fun i hi => h i (by omega))
    have h2 := h k (by omega)
    have h3 := decN_bd (b.drop (posN b k))
    rw [posN_succ]; omega

/-! ### Join -/
def joinL (l : List RecD) : List Int := l.flatMap encL
theorem joinL_app (a b : List RecD) : joinL (a ++ b) = joinL a ++ joinL b := by simp [joinL]
theorem joinL_cons (r : RecD) (l : List RecD) : joinL (r :: l) = encL r ++ joinL l := by simp [joinL]
theorem joinL_snoc (l : List RecD) (r : RecD) : joinL (l ++ [r]) = joinL l ++ encL r := by simp [joinL]
theorem joinL_le (l : List RecD) : (joinL l).length ≤ 24 * l.length := by
  induction l with
  | nil => simp [joinL]
  | cons r l ih =>
    have := (encL_bd r).2
    simp only [joinL, List.flatMap_cons, List.length_append, List.length_cons] at *
    omega
theorem joinL_take_drop (l : List RecD) (k : Nat) : joinL l = joinL (l.take k) ++ joinL (l.drop k) := by
  conv => lhs; rw [← List.take_append_drop k l]
  rw [joinL_app]
theorem joinL_bytes (l : List RecD) (h : ∀ r ∈ l, okR r) : isBytes (joinL l) := by
  intro z hz
  simp only [joinL, List.mem_flatMap] at hz
  obtain ⟨r, hr, hz⟩ := hz
  exact encL_bytes r (h r hr) z hz

/-! ### records come back -/
def endsN (l : List RecD) (i : Nat) : Nat := (joinL (l.take i)).length
theorem endsN_succ (l : List RecD) (i : Nat) (h : i < l.length) : endsN l (i + 1) = endsN l i + (encL l[i]).length := by
  unfold endsN
  rw [List.take_succ_eq_append_getElem h, joinL_snoc, List.length_append]
theorem endsN_mono (l : List RecD) (i j : Nat) (h : i ≤ j) : endsN l i ≤ endsN l j := by
  unfold endsN
  have e := joinL_take_drop (l.take j) i
  rw [List.take_take, Nat.min_eq_left h] at e
  rw [e, List.length_append]
  omega
theorem rest_at (l : List RecD) (cut i : Nat) (h : endsN l i ≤ cut) : ((joinL l).take cut).drop (endsN l i) = (joinL (l.drop i)).take (cut - endsN l i) := by
  rw [List.drop_take]
  congr 1
  rw [joinL_take_drop l i]
  unfold endsN
  rw [List.drop_left]
theorem back_at (l : List RecD) (hr : ∀ r ∈ l, rightB r = true) (ok : ∀ r ∈ l, okR r) (cut i : Nat) (hi : i < l.length) (hc : endsN l (i + 1) ≤ cut) :
    decR (((joinL l).take cut).drop (endsN l i)) = l[i] ∧ decN (((joinL l).take cut).drop (endsN l i)) = (encL l[i]).length := by
  have hs := endsN_succ l i hi
  rw [rest_at l cut i (by omega)]
  have hp : encL l[i] <+: (joinL (l.drop i)).take (cut - endsN l i) := by
    have e : joinL (l.drop i) = encL l[i] ++ joinL (l.drop (i + 1)) := by
      rw [List.drop_eq_getElem_cons hi, joinL_cons]
    rw [e, List.take_append, List.take_of_length_le (by omega)]
    exact List.prefix_append _ _
  have := dec_of _ l[i] (hr _ (List.getElem_mem hi)) (ok _ (List.getElem_mem hi)) hp
  exact ⟨this.2.1, this.2.2⟩
theorem back_stop (l : List RecD) (hr : ∀ r ∈ l, rightB r = true) (ok : ∀ r ∈ l, okR r) (cut k : Nat) (hk : k ≤ l.length) (hc : endsN l k ≤ cut) (hn : k < l.length → cut < endsN l (k + 1)) :
    decN (((joinL l).take cut).drop (endsN l k)) = 0 := by
  rw [rest_at l cut k hc]
  have hbt : isBytes ((joinL (l.drop k)).take (cut - endsN l k)) := (joinL_bytes _ (fun r h => ok r (List.mem_of_mem_drop h))).take _
  refine dec_none _ (fun r okr hrr hp => ?_) hbt
  have hl := (encL_bd r).1
  rcases Nat.lt_or_ge k l.length with hlt | hge
  · have hs := endsN_succ l k hlt
    have hn := hn hlt
    have e : joinL (l.drop k) = encL l[k] ++ joinL (l.drop (k + 1)) := by
      rw [List.drop_eq_getElem_cons hlt, joinL_cons]
    rw [e, List.take_append_of_le_length (by omega)] at hp
    have hp2 : encL r <+: encL l[k] := hp.trans (List.take_prefix _ _)
    have er := enc_apart r l[k] hrr (hr _ (List.getElem_mem hlt)) okr (ok _ (List.getElem_mem hlt)) hp2
    have hle := hp.length_le
    rw [er, List.length_take] at hle
    omega
  · obtain rfl : k = l.length := by omega
    have hle := hp.length_le
    have h0 : (joinL ([] : List RecD)).length = 0 := rfl
    rw [List.drop_length, List.length_take, h0] at hle
    omega
/-- Right records come back from their bytes, cut anywhere. -/
theorem back_all (l : List RecD) (hr : ∀ r ∈ l, rightB r = true) (ok : ∀ r ∈ l, okR r) (cut k : Nat) (hk : k ≤ l.length) (hc : endsN l k ≤ cut) (hn : k < l.length → cut < endsN l (k + 1)) :
    Stops ((joinL l).take cut) k ∧ posN ((joinL l).take cut) k = endsN l k ∧ recsN ((joinL l).take cut) k = l.take k := by
  have key : ∀ i, i ≤ k → posN ((joinL l).take cut) i = endsN l i ∧ recsN ((joinL l).take cut) i = l.take i ∧ Goes ((joinL l).take cut) i := by
    intro i
    induction i with
    | zero => intro _; exact ⟨by simp [posN, endsN, joinL], by simp [recsN], fun i hi => absurd hi (by omega)⟩
    | succ i ih =>
      intro hi
      obtain ⟨h1, h2, h3⟩ := ih (by omega)
      have hlt : i < l.length := by omega
      have hm := endsN_mono l (i + 1) k hi
      have hb := back_at l hr ok cut i hlt (by omega)
      rw [← h1] at hb
      refine ⟨?_, ?_, h3.succ ?_⟩
      · rw [posN_succ, hb.2, h1, endsN_succ l i hlt]
      · rw [recsN_succ, hb.1, h2, List.take_succ_eq_append_getElem hlt]
      · have := (encL_bd l[i]).1
        rw [hb.2]; omega
  obtain ⟨h1, h2, h3⟩ := key k (Nat.le_refl _)
  refine ⟨⟨h3, ?_⟩, h1, h2⟩
  rw [h1]
  exact back_stop l hr ok cut k hk hc hn
end Go.Proofs.YtdmkkfpbgpijjaaGreat
namespace Go.Proofs.YtdmkkfpbgpijjaaGreat
open Go.RowKit Go.Deep

theorem strOfNums_inj {xs ys : List Int} (hx : isBytes xs) (hy : isBytes ys) : (strOfNums xs = strOfNums ys) ↔ xs = ys := by
  constructor
  · intro h
    have h1 : (strOfNums xs).data.toList = (strOfNums ys).data.toList := by rw [h]
    rw [strOfNums_data, strOfNums_data] at h1
    have hl : xs.length = ys.length := by have := congrArg List.length h1; simpa using this
    apply List.ext_getElem hl
    intro i h2 h3
    have e : (xs.map fun n => UInt8.ofNat n.toNat)[i]? = (ys.map fun n => UInt8.ofNat n.toNat)[i]? := by rw [h1]
    simp [h2, h3] at e
    have e2 := congrArg UInt8.toNat e
    have a := hx _ (List.getElem_mem h2)
    have b := hy _ (List.getElem_mem h3)
    simp at e2
    omega
  · rintro rfl; rfl
theorem str_good (A : Option Addr) (c : Nat) (zs : List Int) (l : Nat) (hl : zs.length = l) (w : World) (g : Good A c zs w) (src dst e : TypeId) (hs : Tryz.prog.underlying src = some (.slice e)) (he : Tryz.prog.underlying e = some (.int .u8)) (hd : Tryz.prog.underlying dst = some .string) : (convert src dst (.slice A l c)).run Tryz.prog w = .ok (.string (strOfNums zs)) w := by
  by_cases h0 : 0 < zs.length
  · obtain ⟨b, off, rfl, _, hc⟩ := g.1 h0
    refine run_convert_bytes_arg w src e hs he b off l c zs hl (fun i hi => ?_) dst hd
    rw [hc i (by omega)]
    simp [List.getD]
  · obtain rfl : zs = [] := List.eq_nil_of_length_eq_zero (by omega)
    obtain rfl : l = 0 := by simpa using hl.symm
    rw [run_convert_bytes_string w src dst e _ 0 c hs he hd]
    cases A <;> simp [Conv.bytesToString, loadCells] <;> rfl

set_option maxRecDepth 100000 in
set_option maxHeartbeats 1000000 in
theorem equal_any (A A' : Option Addr) (xs ys : List Int) (c c' l l' : Nat) (o : Bool) (hll : xs.length = l) (hll' : ys.length = l') (hx : isBytes xs) (hy : isBytes ys) (ho : (xs == ys) = o) (w : World) (g : Good A c xs w) (g' : Good A' c' ys w) :
    Calls Tryz.prog 72 #[.slice A l c, .slice A' l' c'] w fun e w' => e = .returned (.bool o) ∧ w = w' := by
  have k1 := str_good A c xs l hll w g 39 9 5 Tryz.underlying39 Tryz.underlying5 Tryz.underlying9
  have k2 := str_good A' c' ys l' hll' w g' 39 9 5 Tryz.underlying39 Tryz.underlying5 Tryz.underlying9
  have hi := Lib.hid (strOfNums_inj hx hy)
  clear g g' hll hll' hx hy
  go_enter Tryz.func72, Tryz.ntmps72
  go_wp2
  go_ret
  refine ⟨?_, rfl⟩
  show Ending.returned (.bool ((strOfNums xs).toList == (strOfNums ys).toList)) = _
  rw [← ho, Lib.strOfNums_toList, Lib.strOfNums_toList]
  congr 2
  rw [Bool.eq_iff_iff, beq_iff_eq, beq_iff_eq, ← hi.out]
  constructor
  · intro h
    have h2 : (strOfNums xs).data = (strOfNums ys).data := Array.toList_inj.1 (by rw [strOfNums_data, strOfNums_data]; exact h)
    exact ByteArray.ext h2
  · intro h; rw [← Lib.strOfNums_toList, ← Lib.strOfNums_toList, h]

end Go.Proofs.YtdmkkfpbgpijjaaGreat
namespace Go.Proofs.YtdmkkfpbgpijjaaGreat
open Go.RowKit Go.Deep
set_option linter.unusedVariables false

set_option maxRecDepth 100000 in
set_option maxHeartbeats 1000000 in
theorem hasPrefix_no (A A' : Option Addr) (l l' c c' : Nat) (hl : l < l') (w : World) :
    Calls Tryz.prog 90 #[.slice A l c, .slice A' l' c'] w fun e w' => e = .returned (.bool false) ∧ w = w' := by
  have hd : decide ((l' : Int) ≤ (l : Int)) = false := by simp; omega
  have hd2 : decide (l' ≤ l) = false := by simp; omega
  go_enter Tryz.func90, Tryz.ntmps90
  go_wp2
  go_ret
  exact ⟨rfl, rfl⟩
set_option maxRecDepth 100000 in
set_option maxHeartbeats 1000000 in
theorem hasPrefix_yes (A A' : Option Addr) (xs ys : List Int) (l l' c c' : Nat) (o : Bool) (hll : xs.length = l) (hll' : ys.length = l') (hx : isBytes xs) (hy : isBytes ys) (hl : l' ≤ l) (h0 : 0 < l') (ho : (xs.take l' == ys) = o) (w : World) (g : Good A c xs w) (g' : Good A' c' ys w) :
    Calls Tryz.prog 90 #[.slice A l c, .slice A' l' c'] w fun e w' => e = .returned (.bool o) ∧ w = w' := by
  have hlt : (xs.take l').length = l' := by rw [List.length_take]; omega
  obtain ⟨b, off, rfl⟩ := g.some (by omega)
  have c1 := equal_any (some ⟨b, off, none⟩) A' (xs.take l') ys c c' l' l' o hlt hll' (hx.take l') hy ho w (g.take l') g'
  have hlc : l ≤ c := by have := g.2.1; omega
  have hlc' : l' ≤ c := by omega
  clear hlt g g' ho hx hy
  go_enter Tryz.func90, Tryz.ntmps90
  go_wp2_with fail
  refine c1.mono ?_
  rintro e w' ⟨rfl, rfl⟩
  go_wp2
  go_ret
  exact ⟨rfl, rfl⟩
/-- bytes.HasPrefix, where what is looked for has bytes. -/
theorem hasPrefix_any (A A' : Option Addr) (xs ys : List Int) (l l' c c' : Nat) (o : Bool) (hll : xs.length = l) (hll' : ys.length = l') (hx : isBytes xs) (hy : isBytes ys) (h0 : 0 < l') (ho : hasP xs ys = o) (w : World) (g : Good A c xs w) (g' : Good A' c' ys w) :
    Calls Tryz.prog 90 #[.slice A l c, .slice A' l' c'] w fun e w' => e = .returned (.bool o) ∧ w = w' := by
  by_cases hl : l' ≤ l
  · refine hasPrefix_yes A A' xs ys l l' c c' o hll hll' hx hy hl h0 ?_ w g g'
    rw [← ho]
    simp only [hasP, hll, hll', decide_eq_true hl, Bool.true_and]
  · have e : hasP xs ys = false := by simp only [hasP, hll, hll', decide_eq_false hl, Bool.false_and]
    rw [e] at ho
    subst ho
    exact hasPrefix_no A A' l l' c c' (by omega) w

def UnpSays (b off l c n k : Nat) (vs : List Int) (w : World) (e : Ending) (w' : World) : Prop :=
  ∃ d, e = .returned (.tuple #[.slice (some ⟨d, 0, none⟩) k k, .slice (some ⟨b, off + n, none⟩) (l - n) (c - n)]) ∧ Ints .i64 w'.heap.size w' (some ⟨d, 0, none⟩) vs ∧ w.heap.size ≤ d ∧ d < w'.heap.size ∧ Below w.heap.size w w'
set_option maxRecDepth 100000 in
set_option maxHeartbeats 1000000 in
theorem unpacked_any (b off l c n k c2 u : Nat) (zs ws : List Int) (A2 : Option Addr) (hl : zs.length = l) (hn : n ≤ l) (hnc : n < c) (hn8 : n ≤ 8) (hz : isBytes zs) (hk : ws.length = k) (hk0 : 0 < k) (hu : fromN (zs.take n) = u) (ho : unpackOK ws u = true) (w : World) (g : Good (some ⟨b, off, none⟩) c zs w) (hI : Ints .i64 w.heap.size w A2 ws) :
    Calls Tryz.prog 107 #[.slice (some ⟨b, off, none⟩) l c, .int .i64 n, .slice A2 k c2] w (UnpSays b off l c n k (unpackL ws u) w) := by
  have hlt : (zs.take n).length = n := by rw [List.length_take]; omega
  have c1 := from_yes (some ⟨b, off, none⟩) c (zs.take n) (hz.take n) (by omega) w (g.1.take n)
  rw [hu, hlt] at c1
  have hu2 : u < 18446744073709551616 := by rw [← hu]; exact fromN_8 zs hz n hn8
  have c2' := fun W h => unpack_yes A2 ws c2 u hu2 W h ho
  rw [hk] at c2'
  unfold UnpackYes at c2'
  rw [hk] at c2'
  have hlc : l ≤ c := by have := g.2.1; omega
  have i0 : (0 : Int) ≤ (n : Int) := by omega
  have i1 : (n : Int) ≤ (l : Int) := by omega
  have i2 : ¬ c = n := by omega
  have i3 : n ≤ c := by omega
  have HI := fun W h => Lib.hid ((hI.below (B' := w.heap.size) (w' := W) h (Nat.le_refl _)).more h.size)
  have HV := Lib.hid ((unpackL_length ws u).trans hk)
  generalize unpackL ws u = vs at *
  clear hlt g hu ho hz hl hk hu2 hI
  go_enter Tryz.func107, Tryz.ntmps107
  go_wp2_with fail
  refine c1.mono ?_
  rintro e w1 ⟨rfl, b1⟩
  go_wp2_with fail
  refine (c2' _ (HI _ b1).out).mono ?_
  rintro e w2 ⟨rfl, i, b2⟩
  have hd2 : w1.heap.size < w2.heap.size := by
    obtain ⟨b', off', e, hlt, _⟩ := i (by rw [HV.out]; exact hk0)
    cases e
    exact hlt
  clear c1 c2' HI
  go_wp2_with fail
  go_quiet (fail)
  go_wp2
  go_ret2
  exact ⟨w1.heap.size, rfl, i, b1.size, hd2, below_drewN (below_more b1 b2 (Nat.le_refl _)) _⟩
end Go.Proofs.YtdmkkfpbgpijjaaGreat
namespace Go.Proofs.YtdmkkfpbgpijjaaGreat
open Go.RowKit Go.Deep
set_option linter.unusedVariables false

def RvSays (t : Bool) (n : Int) (A0 : Option Addr) (c0 : Nat) (zs0 zs : List Int) (w : World) (e : Ending) (w' : World) : Prop :=
  ∃ A c, e = .returned (.tuple #[.agg #[.bool t, .int .i64 n], .slice A zs.length c]) ∧ (∀ W, Good A0 c0 zs0 W → Good A c zs W) ∧ Below w.heap.size w w'
theorem below_store2 {w W0 w1 : World} (h0 : Below w.heap.size w W0) (h1 : Below w.heap.size W0 w1) (v v' : Value) : Below w.heap.size w ((w1.setCell ⟨w.heap.size, 0, none⟩ v).setCell ⟨w.heap.size, 1, none⟩ v').drew :=
  (((h0.trans h1).setCell (p := ⟨w.heap.size, 0, none⟩) (Nat.le_refl _) v).setCell (p := ⟨w.heap.size, 1, none⟩) (Nat.le_refl _) v').drew
set_option maxRecDepth 100000 in
set_option maxHeartbeats 1000000 in
theorem readVal_no (A : Option Addr) (l c : Nat) (k : Int) (zs : List Int) (hl : zs.length = l) (w : World) (g : Good A c zs w) :
    Calls Tryz.prog 118 #[.slice A l c, .int .i64 0, .int .i64 k] w (RvSays false 0 A c zs zs w) := by
  have hb := Lib.hid hl
  clear g hl
  go_enter Tryz.func118, Tryz.ntmps118
  go_wp2
  refine bodyPost_ret (v := .tuple #[.agg #[.bool false, .int .i64 0], .slice A l c]) (by simp [results, Tryz.results118, go_sem]) rfl ?_
  exact ⟨A, c, by rw [hb.out], fun _ h => h, (Below.refl _ _).alloc (Nat.le_refl _) _⟩
set_option maxRecDepth 100000 in
set_option maxHeartbeats 1000000 in
theorem readVal_yes (b off l c k q : Nat) (z : Int) (zs : List Int) (hl : zs.length = l) (hk : k + 1 ≤ l) (hk8 : k ≤ 7) (hz : isBytes zs) (hq : fromN (zs.take (k + 1)) = q) (hzg : zagI q = z) (w : World) (g : Good (some ⟨b, off, none⟩) c zs w) :
    Calls Tryz.prog 118 #[.slice (some ⟨b, off, none⟩) l c, .int .i64 1, .int .i64 k] w (RvSays true z (some ⟨b, off, none⟩) c zs (zs.drop (k + 1)) w) := by
  obtain ⟨W0, hW0⟩ : ∃ W0, W0 = w.alloc (.cells #[.bool false, .int .i64 0] 61) := ⟨_, rfl⟩
  have hs0 : W0.heap.size = w.heap.size + 1 := by rw [hW0]; simp
  have hw0 : Below w.heap.size w W0 := by rw [hW0]; exact (Below.refl _ _).alloc (Nat.le_refl _) _
  have a0 : W0.cell? ⟨w.heap.size, 0, none⟩ = some (.bool false) := by rw [hW0]; simp [go_sem]
  have a1 : W0.cell? ⟨w.heap.size, 1, none⟩ = some (.int .i64 0) := by rw [hW0]; simp [go_sem]
  have f0 : W0.frozen? ⟨w.heap.size, 0, none⟩ = false := by rw [hW0]; simp [go_sem]
  have f1 : W0.frozen? ⟨w.heap.size, 1, none⟩ = false := by rw [hW0]; simp [go_sem]
  have hlt : (zs.take (k + 1)).length = k + 1 := by rw [List.length_take]; omega
  have c1 := fun W h => from_yes (some ⟨b, off, none⟩) c (zs.take (k + 1)) (hz.take _) (by omega) W h
  rw [hq, hlt] at c1
  have hu : q < 18446744073709551616 := by rw [← hq]; exact fromN_8 zs hz (k + 1) (by omega)
  have c2 := fun W => zag_any q hu W
  rw [hzg] at c2
  have gW := g.below hw0
  have hlc : l ≤ c := by have := g.2.1; omega
  have i0 : (0 : Int) ≤ (k : Int) + 1 := by omega
  have i1 : (k : Int) + 1 ≤ (l : Int) := by omega
  have i3 : (k : Int) + 1 ≤ (c : Int) := by omega
  have it : ((k : Int) + 1).toNat = k + 1 := by omega
  have hc1 := Lib.hid (c1 W0 (gW.1.take _))
  clear c1 hq hzg hlt g
  have H := Lib.hid hl
  have HZ := Lib.hid hz
  clear hl hz
  go_enter Tryz.func118, Tryz.ntmps118
  go_wp2_with fail
  rw [← hW0]
  refine hc1.out.mono ?_
  rintro e w1 ⟨rfl, b1⟩
  have q0 : w1.cell? ⟨w.heap.size, 0, none⟩ = some (.bool false) := (b1.cell (p := ⟨w.heap.size, 0, none⟩) (by show w.heap.size < _; omega)).trans a0
  have q1 : w1.cell? ⟨w.heap.size, 1, none⟩ = some (.int .i64 0) := (b1.cell (p := ⟨w.heap.size, 1, none⟩) (by show w.heap.size < _; omega)).trans a1
  have p0 : w1.frozen? ⟨w.heap.size, 0, none⟩ = false := (b1.frozen (p := ⟨w.heap.size, 0, none⟩) (by show w.heap.size < _; omega)).trans f0
  have p1 : w1.frozen? ⟨w.heap.size, 1, none⟩ = false := (b1.frozen (p := ⟨w.heap.size, 1, none⟩) (by show w.heap.size < _; omega)).trans f1
  clear hW0 hc1 a0 a1 f0 f1 gW
  by_cases hcase : c = k + 1
  · have hc2 := Lib.hid hcase; obtain rfl := hcase
    go_wp2_with fail
    go_region_held3 (fun _ => True) (exact trivial) ((go_at_call 121; (with_reducible refine (c2 _).mono ?_); rintro e w' ⟨rfl, rfl⟩))
    clear i0 i1 i3 it c2
    go_wp2
    refine bodyPost_ret (v := .tuple #[.agg #[.bool true, .int .i64 z], .slice (some ⟨b, off, none⟩) 0 0]) ?_ rfl ?_
    · simp [results, Tryz.results118, go_sem, q0, q1]
    · have e0 : zs.drop (k + 1) = [] := List.drop_of_length_le (by rw [H.out]; omega)
      rw [e0]
      exact ⟨some ⟨b, off, none⟩, 0, rfl, fun _ _ => ⟨Ints.nil, by simp, fun e => by cases e⟩, below_store2 hw0 (b1.mono (by omega)) _ _⟩
  · have i2 := hcase
    go_wp2_with fail
    go_region_held3 (fun _ => True) (exact trivial) ((go_at_call 121; (with_reducible refine (c2 _).mono ?_); rintro e w' ⟨rfl, rfl⟩))
    clear i0 i1 i3 it c2
    go_wp2
    refine bodyPost_ret (v := .tuple #[.agg #[.bool true, .int .i64 z], .slice (some ⟨b, off + (k + 1), none⟩) (l - (k + 1)) (c - (k + 1))]) ?_ rfl ?_
    · simp [results, Tryz.results118, go_sem, q0, q1]
    · exact ⟨some ⟨b, off + (k + 1), none⟩, c - (k + 1), by rw [List.length_drop, H.out], fun _ h => h.drop (k + 1) (by rw [H.out]; omega), below_store2 hw0 (b1.mono (by omega)) _ _⟩
/-- rec.readVal, where there are bytes enough. -/
theorem readVal_any (b off l c f k : Nat) (zs : List Int) (hl : zs.length = l) (hf : f ≤ 1) (hk : f = 1 → k + 1 ≤ l) (hk8 : k ≤ 7) (hz : isBytes zs) (w : World) (g : Good (some ⟨b, off, none⟩) c zs w) :
    Calls Tryz.prog 118 #[.slice (some ⟨b, off, none⟩) l c, .int .i64 f, .int .i64 k] w (RvSays (rdT f) (rdN zs f k) (some ⟨b, off, none⟩) c zs (rdR zs f k) w) := by
  have h01 : f = 0 ∨ f = 1 := by omega
  rcases h01 with rfl | rfl
  · exact readVal_no _ l c k zs hl w g
  · exact readVal_yes b off l c k _ _ zs hl (hk rfl) hk8 hz rfl rfl w g
end Go.Proofs.YtdmkkfpbgpijjaaGreat
