/- Layer 2 as plain functions on lists: the sum, its three bytes, sealing and opening; what turned bits do. Nothing of the program. -/
import Derived.Test.YtnllacoimffjpaaCrc
namespace Go.Proofs.Ytnllacoimffjpaa

def isBytes (zs : List Int) : Prop := ∀ z ∈ zs, 0 ≤ z ∧ z < 256
def bytesOf (zs : List Int) : List Nat := zs.map Int.toNat
def low24 (n : Int) : Nat := (n % 16777216).toNat
def sumB (zs : List Int) : Nat := crc 11994318 (bytesOf zs)
def threeL (s : Nat) : List Int := [((s / 65536 % 256 : Nat) : Int), ((s / 256 % 256 : Nat) : Int), ((s % 256 : Nat) : Int)]
def sealL (zs : List Int) : List Int := zs ++ threeL (sumB zs)
def openOK (zs : List Int) : Bool := decide (3 ≤ zs.length) && (zs.drop (zs.length - 3) == threeL (sumB (zs.take (zs.length - 3))))
def openL (zs : List Int) : List Int := if openOK zs then zs.take (zs.length - 3) else []

theorem isBytes.append {a b : List Int} (ha : isBytes a) (hb : isBytes b) : isBytes (a ++ b) := fun z hz => (List.mem_append.1 hz).elim (ha z) (hb z)
theorem isBytes.take {a : List Int} (ha : isBytes a) (n : Nat) : isBytes (a.take n) := fun z hz => ha z (List.mem_of_mem_take hz)
theorem isBytes.drop {a : List Int} (ha : isBytes a) (n : Nat) : isBytes (a.drop n) := fun z hz => ha z (List.mem_of_mem_drop hz)
theorem isBytes.at {a : List Int} (ha : isBytes a) (n : Nat) : 0 ≤ a[n]?.getD 0 ∧ a[n]?.getD 0 < 256 := by
  by_cases h : n < a.length
  · simp only [List.getElem?_eq_getElem h, Option.getD_some]; exact ha _ (List.getElem_mem h)
  · simp [List.getElem?_eq_none (Nat.le_of_not_lt h)]
theorem threeL_bytes (s : Nat) : isBytes (threeL s) := by
  intro z hz
  simp only [threeL, List.mem_cons, List.not_mem_nil, or_false] at hz
  rcases hz with rfl | rfl | rfl <;> omega
theorem threeL_length (s : Nat) : (threeL s).length = 3 := rfl
theorem sealL_length (zs : List Int) : (sealL zs).length = zs.length + 3 := by simp [sealL, threeL]
theorem bytesOf_bytes {zs : List Int} (h : isBytes zs) : bytesN (bytesOf zs) := by
  intro b hb
  simp only [bytesOf, List.mem_map] at hb
  obtain ⟨z, hz, rfl⟩ := hb
  have := h z hz
  omega
theorem bytesOf_append (a b : List Int) : bytesOf (a ++ b) = bytesOf a ++ bytesOf b := by simp [bytesOf]
theorem bytesOf_length (a : List Int) : (bytesOf a).length = a.length := by simp [bytesOf]
theorem low24_lt (n : Int) : low24 n < 16777216 := by unfold low24; omega
theorem low24_of (s : Nat) (h : s < 16777216) : low24 (s : Int) = s := by unfold low24; omega
theorem sumB_lt {zs : List Int} (h : isBytes zs) : sumB zs < 16777216 := crc_lt _ _ (by decide) (bytesOf_bytes h)
theorem sumB_append (a b : List Int) : sumB (a ++ b) = crc (sumB a) (bytesOf b) := by unfold sumB; rw [bytesOf_append, crc_append]
theorem sealL_bytes {zs : List Int} (h : isBytes zs) : isBytes (sealL zs) := h.append (threeL_bytes _)
theorem crc_threeL (s : Nat) (h : s < 16777216) : crc s (bytesOf (threeL s)) = 0 := by
  have e : bytesOf (threeL s) = [s / 65536 % 256, s / 256 % 256, s % 256] := by simp only [bytesOf, threeL, List.map_cons, List.map_nil, Int.toNat_natCast]
  rw [e]
  exact (crc_three_zero s _ _ _ h (by omega) (by omega) (by omega)).2 (by omega)
theorem sumB_seal {zs : List Int} (h : isBytes zs) : sumB (sealL zs) = 0 := by
  unfold sealL
  rw [sumB_append, crc_threeL _ (sumB_lt h)]
theorem open_seal (zs : List Int) : openOK (sealL zs) = true ∧ openL (sealL zs) = zs := by
  have h : openOK (sealL zs) = true := by
    unfold openOK
    rw [sealL_length, show zs.length + 3 - 3 = zs.length by omega]
    unfold sealL
    rw [List.drop_left, List.take_left]
    simp
  refine ⟨h, ?_⟩
  unfold openL
  rw [if_pos h, sealL_length, show zs.length + 3 - 3 = zs.length by omega]
  unfold sealL
  rw [List.take_left]
theorem open_is {zs : List Int} (h : openOK zs = true) : sealL (openL zs) = zs := by
  unfold openL
  rw [if_pos h]
  simp only [openOK, Bool.and_eq_true, decide_eq_true_eq, beq_iff_eq] at h
  unfold sealL
  rw [← h.2, List.take_append_drop]
theorem openL_no {zs : List Int} (h : openOK zs = false) : openL zs = [] := by unfold openL; rw [h]; rfl
theorem openL_bytes {zs : List Int} (h : isBytes zs) : isBytes (openL zs) := by
  unfold openL
  split
  · exact h.take _
  · intro z hz; cases hz
theorem openL_length (zs : List Int) : (openL zs).length ≤ zs.length := by
  unfold openL
  split
  · simp
  · simp
/-- What is opened has the sum 0. -/
theorem open_sum {zs : List Int} (hb : isBytes zs) (h : openOK zs = true) : sumB zs = 0 := by
  rw [← open_is h]
  exact sumB_seal (openL_bytes hb)

/-! ### Turned bits -/
theorem crc_turned (s : Nat) (bs es : List Nat) (hl : bs.length = es.length) (hs : s < 16777216) (hb : bytesN bs) (he : bytesN es) (h0 : crc s bs = 0) (h1 : crc 0 es ≠ 0) : crc s (List.zipWith (· ^^^ ·) bs es) ≠ 0 := by
  have := crc_lin bs es s 0 hl hs (by decide) hb he
  rw [Nat.xor_zero, h0, Nat.zero_xor] at this
  rw [this]; exact h1
def oneE (i n e : Nat) : List Nat := List.replicate i 0 ++ e :: List.replicate (n - i - 1) 0
def twoE (i n : Nat) : List Nat := List.replicate i 0 ++ 1 :: 128 :: List.replicate (n - i - 2) 0
theorem oneE_length (i n e : Nat) (h : i < n) : (oneE i n e).length = n := by simp [oneE]; omega
theorem twoE_length (i n : Nat) (h : i + 1 < n) : (twoE i n).length = n := by simp [twoE]; omega
theorem oneE_bytes (i n e : Nat) (h : e < 256) : bytesN (oneE i n e) := by
  intro b hb
  simp only [oneE, List.mem_append, List.mem_cons, List.mem_replicate] at hb
  rcases hb with ⟨_, rfl⟩ | rfl | ⟨_, rfl⟩ <;> omega
theorem twoE_bytes (i n : Nat) : bytesN (twoE i n) := by
  intro b hb
  simp only [twoE, List.mem_append, List.mem_cons, List.mem_replicate] at hb
  rcases hb with ⟨_, rfl⟩ | rfl | rfl | ⟨_, rfl⟩ <;> omega
theorem oneE_at (i n e j : Nat) : (oneE i n e)[j]?.getD 0 = if j = i then e else 0 := by
  unfold oneE
  by_cases h : j < i
  · rw [List.getElem?_append_left (by simpa using h), List.getElem?_replicate, if_pos h, if_neg (by omega)]; rfl
  · rw [List.getElem?_append_right (by simp; omega), List.length_replicate]
    by_cases h2 : j = i
    · subst h2; simp
    · rw [if_neg h2, show j - i = (j - i - 1) + 1 by omega, List.getElem?_cons_succ, List.getElem?_replicate]
      split <;> rfl
theorem twoE_at (i n j : Nat) : (twoE i n)[j]?.getD 0 = if j = i then 1 else if j = i + 1 then 128 else 0 := by
  unfold twoE
  by_cases h : j < i
  · rw [List.getElem?_append_left (by simpa using h), List.getElem?_replicate, if_pos h, if_neg (by omega), if_neg (by omega)]; rfl
  · rw [List.getElem?_append_right (by simp; omega), List.length_replicate]
    by_cases h2 : j = i
    · subst h2; simp
    · rw [if_neg h2, show j - i = (j - i - 1) + 1 by omega, List.getElem?_cons_succ]
      by_cases h3 : j = i + 1
      · subst h3; rw [if_pos rfl, show i + 1 - i - 1 = 0 by omega]; rfl
      · rw [if_neg h3, show j - i - 1 = (j - i - 2) + 1 by omega, List.getElem?_cons_succ, List.getElem?_replicate]
        split <;> rfl
/-- A list whose bytes are those of a sealed one, turned by es, isn't opened. -/
theorem turned_no (ss ts : List Int) (es : List Nat) (hs : isBytes ss) (hts : isBytes ts) (hl : ss.length = ts.length) (hle : es.length = ss.length) (he : bytesN es) (hx : ∀ j, j < ss.length → (ts[j]?.getD 0).toNat = (ss[j]?.getD 0).toNat ^^^ es[j]?.getD 0) (h0 : sumB ss = 0) (h1 : crc 0 es ≠ 0) : openOK ts = false := by
  rw [Bool.eq_false_iff]
  intro h
  have h2 := open_sum hts h
  have e : bytesOf ts = List.zipWith (· ^^^ ·) (bytesOf ss) es := by
    apply List.ext_getElem
    · simp [bytesOf]; omega
    · intro j h3 h4
      rw [bytesOf_length] at h3
      have := hx j (by omega)
      simp only [List.getElem?_eq_getElem h3, List.getElem?_eq_getElem (show j < ss.length by omega), List.getElem?_eq_getElem (show j < es.length by omega), Option.getD_some] at this
      simp [bytesOf, this]
  refine crc_turned 11994318 (bytesOf ss) es (by rw [bytesOf_length, hle]) (by decide) (bytesOf_bytes hs) he h0 h1 ?_
  rw [← e]
  exact h2
end Go.Proofs.Ytnllacoimffjpaa
