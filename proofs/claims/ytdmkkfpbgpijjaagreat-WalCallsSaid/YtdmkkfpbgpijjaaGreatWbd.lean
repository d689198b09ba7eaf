/- Plain arithmetic: turning there and back, counting by parts, the lowest bit taken away. Nothing of the program. Plain arithmetic of layer 2's sum of 24 bits: it is linear, it loses nothing, what is sealed has the sum 0, and turned bits are seen. Nothing of the program. Layer 2 as plain functions on lists, for the stages above it: the sum, its three bytes, sealing and opening (Sa over Eh). Nothing of the program. Layer 5 (wal) as plain mathematics: a log's sector, how it is read, and a torn one. No program. -/
import Derived.Test.YtdmkkfpbgpijjaaGreatWae
import Derived.Test.YtdmkkfpbgpijjaaGreatWaj
import Derived.Test.YtdmkkfpbgpijjaaGreatWaz
namespace Go.Proofs.YtdmkkfpbgpijjaaGreat
open Go.RowKit

theorem xor_parts (k a b c d : Nat) (hb : b < 2 ^ k) (hd : d < 2 ^ k) : (a * 2 ^ k + b) ^^^ (c * 2 ^ k + d) = (a ^^^ c) * 2 ^ k + (b ^^^ d) := by
  have p : 0 < 2 ^ k := Nat.two_pow_pos k
  have h1 := Nat.xor_div_two_pow (a := a * 2 ^ k + b) (b := c * 2 ^ k + d) (n := k)
  have h2 := Nat.xor_mod_two_pow (a := a * 2 ^ k + b) (b := c * 2 ^ k + d) (n := k)
  have e1 : (a * 2 ^ k + b) / 2 ^ k = a := by rw [Nat.mul_comm, Nat.mul_add_div p, Nat.div_eq_of_lt hb, Nat.add_zero]
  have e2 : (c * 2 ^ k + d) / 2 ^ k = c := by rw [Nat.mul_comm, Nat.mul_add_div p, Nat.div_eq_of_lt hd, Nat.add_zero]
  have e3 : (a * 2 ^ k + b) % 2 ^ k = b := by rw [Nat.mul_comm, Nat.mul_add_mod, Nat.mod_eq_of_lt hb]
  have e4 : (c * 2 ^ k + d) % 2 ^ k = d := by rw [Nat.mul_comm, Nat.mul_add_mod, Nat.mod_eq_of_lt hd]
  rw [e1, e2] at h1
  rw [e3, e4] at h2
  have h3 := Nat.mod_add_div ((a * 2 ^ k + b) ^^^ (c * 2 ^ k + d)) (2 ^ k)
  rw [h1, h2, Nat.mul_comm (2 ^ k)] at h3
  omega
end Go.Proofs.YtdmkkfpbgpijjaaGreat
namespace Go.Proofs.YtdmkkfpbgpijjaaGreat

/-- The sum is doubled, and brought back below 2 to 24. -/
def dbl (s : Nat) : Nat := if 16777216 ≤ 2 * s then (2 * s) ^^^ 25578747 else 2 * s
theorem dbl_low (s : Nat) (h : s < 8388608) : dbl s = 2 * s := by unfold dbl; rw [if_neg (by omega)]
theorem dbl_high (l : Nat) (h : l < 8388608) : dbl (8388608 + l) = (2 * l) ^^^ 8801531 := by
  unfold dbl
  rw [if_pos (by omega)]
  have hx := xor_parts 24 1 (2 * l) 1 8801531 (by omega) (by omega)
  rw [show 1 * 2 ^ 24 + 2 * l = 2 * (8388608 + l) by omega, show 1 * 2 ^ 24 + 8801531 = 25578747 by decide, Nat.xor_self, Nat.zero_mul, Nat.zero_add] at hx
  exact hx
theorem xor24 (a b : Nat) (ha : a < 16777216) (hb : b < 16777216) : a ^^^ b < 16777216 := Nat.xor_lt_two_pow (n := 24) ha hb
theorem dbl_lt (s : Nat) (h : s < 16777216) : dbl s < 16777216 := by
  by_cases h2 : s < 8388608
  · rw [dbl_low s h2]; omega
  · rw [show s = 8388608 + (s - 8388608) by omega, dbl_high _ (by omega)]
    exact xor24 _ _ (by omega) (by omega)
/-- So many times. -/
def itd (n s : Nat) : Nat := match n with
  | 0 => s
  | n + 1 => itd n (dbl s)
termination_by n
theorem itd_0 (s : Nat) : itd 0 s = s := by rw [itd]
theorem itd_s (n s : Nat) : itd (n + 1) s = itd n (dbl s) := by rw [itd]
theorem itd_lt (n : Nat) : ∀ s, s < 16777216 → itd n s < 16777216 := by
  induction n with
  | zero => intro s h; rw [itd_0]; exact h
  | succ n ih => intro s h; rw [itd_s]; exact ih _ (dbl_lt s h)
theorem itd_add (m n : Nat) : ∀ s, itd (m + n) s = itd n (itd m s) := by
  induction m with
  | zero => intro s; rw [Nat.zero_add, itd_0]
  | succ m ih => intro s; rw [show m + 1 + n = (m + n) + 1 by omega, itd_s, itd_s]; exact ih (dbl s)
/-- What a sum becomes by a byte, and by bytes. -/
def stepB (s b : Nat) : Nat := itd 8 (s ^^^ (b * 65536))
def crc (s : Nat) (bs : List Nat) : Nat := bs.foldl stepB s
def bytesN (bs : List Nat) : Prop := ∀ b ∈ bs, b < 256
theorem stepB_lt (s b : Nat) (hs : s < 16777216) (hb : b < 256) : stepB s b < 16777216 := by
  have h : b * 65536 < 16777216 := by omega
  unfold stepB
  exact itd_lt 8 _ (xor24 s _ hs h)
theorem crc_lt (bs : List Nat) : ∀ s, s < 16777216 → bytesN bs → crc s bs < 16777216 := by
  induction bs with
  | nil => intro s hs _; exact hs
  | cons b bs ih => intro s hs hb; exact ih _ (stepB_lt s b hs (hb b (by simp))) (fun c hc => hb c (by simp [hc]))
theorem crc_append (s : Nat) (a b : List Nat) : crc s (a ++ b) = crc (crc s a) b := by unfold crc; rw [List.foldl_append]
end Go.Proofs.YtdmkkfpbgpijjaaGreat
namespace Go.Proofs.YtdmkkfpbgpijjaaGreat
set_option linter.unusedVariables false


def bytesOf (zs : List Int) : List Nat := zs.map Int.toNat
def low24 (n : Int) : Nat := (n % 16777216).toNat
def sumB (zs : List Int) : Nat := crc 11994318 (bytesOf zs)
def threeL (s : Nat) : List Int := [((s / 65536 % 256 : Nat) : Int), ((s / 256 % 256 : Nat) : Int), ((s % 256 : Nat) : Int)]
def sealL (zs : List Int) : List Int := zs ++ threeL (sumB zs)
def openOK (zs : List Int) : Bool := decide (3 ≤ zs.length) && (zs.drop (zs.length - 3) == threeL (sumB (zs.take (zs.length - 3))))
def openL (zs : List Int) : List Int := if openOK zs then zs.take (zs.length - 3) else []
theorem isBytes.at {a : List Int} (ha : isBytes a) (n : Nat) : 0 ≤ a[n]?.getD 0 ∧ a[n]?.getD 0 < 256 := by
  by_cases h : n < a.length
  · simp only [List.getElem?_eq_getElem h, Option.getD_some]; exact ha _ (List.getElem_mem h)
  · simp [List.getElem?_eq_none (Nat.le_of_not_lt h)]
theorem threeL_bytes (s : Nat) : isBytes (threeL s) := by
  intro z hz
  simp only [threeL, List.mem_cons, List.not_mem_nil, or_false] at hz
  rcases hz with rfl | rfl | rfl <;> omega
theorem threeL_length (s : Nat) : (threeL s).length = 3 := rfl
theorem sealL_length (zs : List Int) : (sealL zs).length = zs.length + 3 := by simp [sealL, threeL]
theorem bytesOf_bytes {zs : List Int} (h : isBytes zs) : bytesN (bytesOf zs) := by
  intro b hb
  simp only [bytesOf, List.mem_map] at hb
  obtain ⟨z, hz, rfl⟩ := hb
  have := h z hz
  omega
theorem bytesOf_append (a b : List Int) : bytesOf (a ++ b) = bytesOf a ++ bytesOf b := by simp [bytesOf]
theorem low24_lt (n : Int) : low24 n < 16777216 := by unfold low24; omega
theorem low24_of (s : Nat) (h : s < 16777216) : low24 (s : Int) = s := by unfold low24; omega
theorem sumB_lt {zs : List Int} (h : isBytes zs) : sumB zs < 16777216 := crc_lt _ _ (by decide) (bytesOf_bytes h)
theorem sealL_bytes {zs : List Int} (h : isBytes zs) : isBytes (sealL zs) := h.append (threeL_bytes _)
theorem open_seal (zs : List Int) : openOK (sealL zs) = true ∧ openL (sealL zs) = zs := by
  have h : openOK (sealL zs) = true := by
    unfold openOK
    rw [sealL_length, show zs.length + 3 - 3 = zs.length by omega]
    unfold sealL
    rw [List.drop_left, List.take_left]
    simp
  refine ⟨h, ?_⟩
  unfold openL
  rw [if_pos h, sealL_length, show zs.length + 3 - 3 = zs.length by omega]
  unfold sealL
  rw [List.take_left]
theorem open_is {zs : List Int} (h : openOK zs = true) : sealL (openL zs) = zs := by
  unfold openL
  rw [if_pos h]
  simp only [openOK, Bool.and_eq_true, decide_eq_true_eq, beq_iff_eq] at h
  unfold sealL
  rw [← h.2, List.take_append_drop]
theorem openL_no {zs : List Int} (h : openOK zs = false) : openL zs = [] := by unfold openL; rw [h]; rfl
def oneE (i n e : Nat) : List Nat := List.replicate i 0 ++ e :: List.replicate (n - i - 1) 0
def twoE (i n : Nat) : List Nat := List.replicate i 0 ++ 1 :: 128 :: List.replicate (n - i - 2) 0
end Go.Proofs.YtdmkkfpbgpijjaaGreat
namespace Go.Proofs.YtdmkkfpbgpijjaaGreat
set_option linter.unusedVariables false

/-- A log's sector: its number, the first number that counts, its bytes, and whether it begins. -/
structure Sec where
  n : Nat
  first : Nat
  data : List Int
  beg : Bool
def flagN (k : Nat) (beg : Bool) : Nat := k + (if beg then 128 else 0)
def bodyL (s : Sec) : List Int := bytesL s.n 4 ++ bytesL s.first 4 ++ [((flagN s.data.length s.beg : Nat) : Int)] ++ s.data ++ zeros (16 - s.data.length)
def secL (s : Sec) : List Int := sealL (bodyL s) ++ bytesL s.n 4
/-- A sector that can be written: its numbers are below 2 to 32, its bytes are 16 at most. -/
structure okS (s : Sec) : Prop where
  n : s.n < 4294967296
  first : s.first < 4294967296
  len : s.data.length ≤ 16
  bytes : isBytes s.data

def flagOf (z : List Int) : Nat := (z[8]?.getD 0).toNat
def isSec (z : List Int) : Bool :=
  decide (z.length = 32) && (z.take 4 == z.drop 28) && openOK (z.take 28) && decide (flagOf z % 128 ≤ 16) && ((z.drop (9 + flagOf z % 128)).take (16 - flagOf z % 128) == zeros (16 - flagOf z % 128))
def secOf (z : List Int) : Sec := ⟨fromN (z.take 4), fromN ((z.drop 4).take 4), (z.drop 9).take (flagOf z % 128), decide (128 ≤ flagOf z)⟩
/-- What a sector's bytes are as a log's sector. -/
def readS (z : List Int) : Option Sec := if isSec z then some (secOf z) else none

theorem flagN_lt (k : Nat) (beg : Bool) (h : k ≤ 16) : flagN k beg < 256 ∧ flagN k beg % 128 = k ∧ (decide (128 ≤ flagN k beg)) = beg := by
  unfold flagN
  cases beg
  · simp; omega
  · simp; omega
theorem bodyL_length {s : Sec} (h : okS s) : (bodyL s).length = 25 := by
  have := h.len
  simp [bodyL, bytesL_length, zeros]; omega
theorem secL_length {s : Sec} (h : okS s) : (secL s).length = 32 := by
  simp [secL, sealL_length, bodyL_length h, bytesL_length]
theorem bodyL_bytes {s : Sec} (h : okS s) : isBytes (bodyL s) := by
  have hf := (flagN_lt s.data.length s.beg h.len).1
  unfold bodyL
  refine (((isBytes.append (bytesL_bytes _ _) (bytesL_bytes _ _)).append ?_).append h.bytes).append (zeros_bytes _)
  intro z hz
  simp at hz
  omega
theorem secL_bytes {s : Sec} (h : okS s) : isBytes (secL s) := (sealL_bytes (bodyL_bytes h)).append (bytesL_bytes _ _)
theorem four_back (n : Nat) (h : n < 4294967296) : fromN (bytesL n 4) = n := from_bytes 4 n (by omega)
theorem secL_front (s : Sec) : (secL s).take 4 = bytesL s.n 4 := by
  unfold secL sealL bodyL
  simp only [List.append_assoc]
  rw [List.take_append_of_le_length (by rw [bytesL_length]; omega), List.take_of_length_le (by rw [bytesL_length]; omega)]
theorem seal_len {s : Sec} (h : okS s) : (sealL (bodyL s)).length = 28 := by rw [sealL_length, bodyL_length h]
theorem secL_back {s : Sec} (h : okS s) : (secL s).drop 28 = bytesL s.n 4 := by
  unfold secL
  rw [List.drop_append_of_le_length (by rw [seal_len h]; omega), List.drop_of_length_le (by rw [seal_len h]; omega), List.nil_append]
theorem secL_seal {s : Sec} (h : okS s) : (secL s).take 28 = sealL (bodyL s) := by
  unfold secL
  rw [List.take_append_of_le_length (by rw [seal_len h]; omega), List.take_of_length_le (by rw [seal_len h]; omega)]
/-- The bytes behind the two numbers. -/
theorem secL_drop8 (s : Sec) : (secL s).drop 8 = ((flagN s.data.length s.beg : Nat) : Int) :: (s.data ++ (zeros (16 - s.data.length) ++ (threeL (sumB (bodyL s)) ++ bytesL s.n 4))) := by
  have e : secL s = (bytesL s.n 4 ++ bytesL s.first 4) ++ (((flagN s.data.length s.beg : Nat) : Int) :: (s.data ++ (zeros (16 - s.data.length) ++ (threeL (sumB (bodyL s)) ++ bytesL s.n 4)))) := by
    unfold secL sealL
    conv => lhs; unfold bodyL
    simp only [List.append_assoc, List.cons_append, List.nil_append]
    rfl
  rw [e, List.drop_append_of_le_length (by simp [bytesL_length]), List.drop_of_length_le (by simp [bytesL_length]), List.nil_append]
theorem secL_flag {s : Sec} (h : okS s) : flagOf (secL s) = flagN s.data.length s.beg := by
  unfold flagOf
  have e : (secL s)[8]? = ((secL s).drop 8)[0]? := by rw [List.getElem?_drop]
  rw [e, secL_drop8]
  simp
/-- What was written is read. -/
theorem read_sec {s : Sec} (h : okS s) : readS (secL s) = some s := by
  obtain ⟨f1, f2, f3⟩ := flagN_lt s.data.length s.beg h.len
  have e9 : (secL s).drop 9 = s.data ++ (zeros (16 - s.data.length) ++ (threeL (sumB (bodyL s)) ++ bytesL s.n 4)) := by
    have : (secL s).drop 9 = ((secL s).drop 8).drop 1 := by rw [List.drop_drop]
    rw [this, secL_drop8]
    rfl
  have ek : (secL s).drop (9 + s.data.length) = zeros (16 - s.data.length) ++ (threeL (sumB (bodyL s)) ++ bytesL s.n 4) := by
    have : (secL s).drop (9 + s.data.length) = ((secL s).drop 9).drop s.data.length := by rw [List.drop_drop]
    rw [this, e9, List.drop_left]
  have hz : (zeros (16 - s.data.length)).length = 16 - s.data.length := by simp [zeros]
  have i : isSec (secL s) = true := by
    unfold isSec
    rw [secL_length h, secL_front, secL_back h, secL_seal h, (open_seal _).1, secL_flag h, f2, ek]
    rw [List.take_append_of_le_length (by omega), List.take_of_length_le (by omega)]
    simp [h.len]
  have e4 : ((secL s).drop 4).take 4 = bytesL s.first 4 := by
    unfold secL sealL bodyL
    simp only [List.append_assoc]
    rw [List.drop_append_of_le_length (by rw [bytesL_length]; omega), List.drop_of_length_le (by rw [bytesL_length]; omega), List.nil_append, List.take_append_of_le_length (by rw [bytesL_length]; omega), List.take_of_length_le (by rw [bytesL_length]; omega)]
  unfold readS
  rw [i, if_pos rfl]
  unfold secOf
  rw [secL_front, four_back _ h.n, e4, four_back _ h.first, secL_flag h, f2, f3, e9]
  simp

theorem fromN_inj : ∀ (a b : List Int), isBytes a → isBytes b → a.length = b.length → fromN a = fromN b → a = b
  | [], [], _, _, _, _ => rfl
  | x :: a, y :: b, ha, hb, hl, h => by
    have hx := ha x (List.mem_cons_self ..)
    have hy := hb y (List.mem_cons_self ..)
    rw [fromN_cons, fromN_cons] at h
    have e1 : x = y := by omega
    have e2 : fromN a = fromN b := by omega
    rw [e1, fromN_inj a b (fun z hz => ha z (List.mem_cons_of_mem _ hz)) (fun z hz => hb z (List.mem_cons_of_mem _ hz)) (by simpa using hl) e2]
/-- A torn sector is the new one, the old one, or none: its number stands at both ends. -/
theorem torn_is (new old : List Int) (t : Nat) (hn : new.length = 32) (ho : old.length = 32) (en : new.take 4 = new.drop 28) (eo : old.take 4 = old.drop 28) (hne : new.take 4 ≠ old.take 4) (ht : t ≤ 32) :
    new.take t ++ old.drop t = new ∨ new.take t ++ old.drop t = old ∨ isSec (new.take t ++ old.drop t) = false := by
  by_cases h : (new.take t ++ old.drop t).take 4 = (new.take t ++ old.drop t).drop 28
  · rcases Nat.lt_or_ge t 4 with h4 | h4
    · right; left
      have e1 : (new.take t ++ old.drop t).drop 28 = old.drop 28 := by
        rw [List.drop_append, List.drop_of_length_le (by rw [List.length_take]; omega), List.nil_append, List.drop_drop]
        congr 1; rw [List.length_take]; omega
      have e2 : (new.take t ++ old.drop t).drop 4 = old.drop 4 := by
        rw [List.drop_append, List.drop_of_length_le (by rw [List.length_take]; omega), List.nil_append, List.drop_drop]
        congr 1; rw [List.length_take]; omega
      rw [e1, ← eo] at h
      have h3 := List.take_append_drop 4 (new.take t ++ old.drop t)
      rw [h, e2, List.take_append_drop] at h3
      exact h3.symm
    · have e1 : (new.take t ++ old.drop t).take 4 = new.take 4 := by
        rw [List.take_append_of_le_length (by rw [List.length_take]; omega), List.take_take, Nat.min_eq_left h4]
      rw [e1] at h
      rcases Nat.lt_or_ge 28 t with h28 | h28
      · left
        have e2 : (new.take t ++ old.drop t).take 28 = new.take 28 := by
          rw [List.take_append_of_le_length (by rw [List.length_take]; omega), List.take_take, Nat.min_eq_left (by omega)]
        have h3 := List.take_append_drop 28 (new.take t ++ old.drop t)
        rw [e2, ← h, en, List.take_append_drop] at h3
        exact h3.symm
      · exfalso
        have e2 : (new.take t ++ old.drop t).drop 28 = old.drop 28 := by
          rw [List.drop_append, List.drop_of_length_le (by rw [List.length_take]; omega), List.nil_append, List.drop_drop]
          congr 1; rw [List.length_take]; omega
        rw [e2, ← eo] at h
        exact hne h
  · right; right
    unfold isSec
    have : ((new.take t ++ old.drop t).take 4 == (new.take t ++ old.drop t).drop 28) = false := by simpa using h
    rw [this]
    simp
end Go.Proofs.YtdmkkfpbgpijjaaGreat
