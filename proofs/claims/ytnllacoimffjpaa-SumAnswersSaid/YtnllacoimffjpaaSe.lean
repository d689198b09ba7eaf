/- The walk of the statement SumBits, over what layer 2's calls answer. -/
import Derived.Test.YtnllacoimffjpaaSb
import Derived.Deep.RegionHeld3
namespace Go.Proofs.Ytnllacoimffjpaa
open Go.RowKit Go.Deep

def Alive (w : World) : Prop := Calls Try.prog 8 #[] w fun e w' => e = .returned (.bool true) ∧ Below w.heap.size w w'

set_option maxHeartbeats 1000000 in
theorem sumBits_long (A : Option Addr) (l c : Nat) (bit : Int) (two : Bool) (m : l ≤ 9223372036854775807) (h : 1000 < l) (w : World) (hA : Hid (Alive w)) :
    Calls Try.prog 5 #[.slice A l c, .int .i64 bit, .bool two] w fun e w' => e = .returned (.bool true) ∧ Below w.heap.size w w' := by
  go_enter Try.func5, Try.ntmps5
  go_wp2_with fail
  refine Calls.mono hA.out ?_
  clear hA
  rintro e w1 ⟨rfl, hb⟩
  go_wp2
  go_ret
  exact ⟨rfl, hb⟩

theorem bits_xor_u8 (a b : Int) (ha : 0 ≤ a ∧ a < 256) (hb : 0 ≤ b ∧ b < 256) : bits .xor .u8 a b = ((a.toNat ^^^ b.toNat : Nat) : Int) := by
  have hx : a.toNat ^^^ b.toNat < 2 ^ 8 := Nat.xor_lt_two_pow (by omega) (by omega)
  have h1 : (BitVec.ofInt 8 a).toNat = a.toNat := by rw [BitVec.toNat_ofInt]; omega
  have h2 : (BitVec.ofInt 8 b).toNat = b.toNat := by rw [BitVec.toNat_ofInt]; omega
  show IntKind.u8.wrap ((BitVec.ofInt 8 a ^^^ BitVec.ofInt 8 b).toNat : Int) = _
  rw [BitVec.toNat_xor, h1, h2]
  simp [IntKind.wrap, IntKind.signed, IntKind.bits]
  omega

/-- ts is ss with bytes turned: byte j by f j. -/
def Turned (ss ts : List Int) (f : Nat → Nat) : Prop := ts.length = ss.length ∧ isBytes ts ∧ ∀ j, j < ss.length → (ts[j]?.getD 0).toNat = (ss[j]?.getD 0).toNat ^^^ f j
theorem Turned.refl {ss : List Int} (h : isBytes ss) : Turned ss ss (fun _ => 0) := ⟨rfl, h, fun j _ => by rw [Nat.xor_zero]⟩
theorem Turned.step {ss ts : List Int} {f : Nat → Nat} (h : Turned ss ts f) (i : Nat) (m : Int) (hm : 0 ≤ m ∧ m < 256) (y : Int) (hy : bits .xor .u8 (ts[i]?.getD 0) m = y) : Turned ss (ts.set i y) (fun j => if j = i then f j ^^^ m.toNat else f j) := by
  have hb := h.2.1.at i
  rw [bits_xor_u8 _ _ hb hm] at hy
  have hl : (ts[i]?.getD 0).toNat ^^^ m.toNat < 256 := Nat.xor_lt_two_pow (n := 8) (by omega) (by omega)
  refine ⟨by rw [List.length_set]; exact h.1, ?_, fun j hj => ?_⟩
  · intro z hz
    rcases List.mem_or_eq_of_mem_set hz with h2 | h2
    · exact h.2.1 z h2
    · rw [h2, ← hy]; omega
  · have h3 := h.2.2 j hj
    by_cases e : j = i
    · subst e
      simp only [if_true]
      rw [List.getElem?_set_self (by rw [h.1]; exact hj), Option.getD_some, ← hy, Int.toNat_natCast, h3, Nat.xor_assoc]
    · simp only [if_neg e]
      rw [List.getElem?_set_ne (fun e2 => e e2.symm)]
      exact h3
def bitE (k : Nat) : Nat := 128 / 2 ^ (k % 8)
theorem bitE_all : ∀ r, r < 8 → 0 < 128 / 2 ^ r ∧ 128 / 2 ^ r < 256 := by decide
theorem bitE_two : ∀ r, r < 7 → 128 / 2 ^ r ^^^ 128 / 2 ^ (r + 1) ≠ 0 ∧ 128 / 2 ^ r ^^^ 128 / 2 ^ (r + 1) < 256 := by decide
theorem bitE_in (k : Nat) : 0 < bitE k ∧ bitE k < 256 := bitE_all (k % 8) (by omega)
theorem bitE_int (k : Nat) : (128 / 2 ^ (k % 8) : Int) = ((bitE k : Nat) : Int) := by unfold bitE; simp
theorem bit_one (ss ts : List Int) (k : Nat) (hk : k < 8 * ss.length - 1) (hs : isBytes ss) (h0 : sumB ss = 0) (h : Turned ss ts (fun j => if j = k / 8 then 0 ^^^ bitE k else 0)) : openOK ts = false := by
  have hb := bitE_in k
  rw [Nat.zero_xor] at h
  refine turned_no ss ts (oneE (k / 8) ss.length (bitE k)) hs h.2.1 h.1.symm (oneE_length _ _ _ (by omega)) (oneE_bytes _ _ _ hb.2) (fun j hj => ?_) h0 (crc_one _ _ _ hb.2 (by omega))
  rw [oneE_at]
  exact h.2.2 j hj
theorem bit_two (ss ts : List Int) (k : Nat) (hk : k < 8 * ss.length - 1) (hs : isBytes ss) (h0 : sumB ss = 0) (h : Turned ss ts (fun j => if j = (k + 1) / 8 then (if j = k / 8 then 0 ^^^ bitE k else 0) ^^^ bitE (k + 1) else (if j = k / 8 then 0 ^^^ bitE k else 0))) : openOK ts = false := by
  rw [Nat.zero_xor] at h
  by_cases e : k % 8 = 7
  · have e1 : bitE k = 1 := by unfold bitE; rw [e]
    have e2 : bitE (k + 1) = 128 := by unfold bitE; rw [show (k + 1) % 8 = 0 by omega]
    have e3 : (k + 1) / 8 = k / 8 + 1 := by omega
    rw [e1, e2, e3] at h
    refine turned_no ss ts (twoE (k / 8) ss.length) hs h.2.1 h.1.symm (twoE_length _ _ (by omega)) (twoE_bytes _ _) (fun j hj => ?_) h0 (crc_two _ _)
    rw [twoE_at, h.2.2 j hj]
    by_cases h1 : j = k / 8
    · simp only [h1, if_true]; rw [if_neg (by omega)]
    · simp only [if_neg h1, Nat.zero_xor]
  · have e3 : (k + 1) / 8 = k / 8 := by omega
    have hb := bitE_two (k % 8) (by omega)
    rw [show k % 8 + 1 = (k + 1) % 8 by omega] at hb
    rw [e3] at h
    refine turned_no ss ts (oneE (k / 8) ss.length (bitE k ^^^ bitE (k + 1))) hs h.2.1 h.1.symm (oneE_length _ _ _ (by omega)) (oneE_bytes _ _ _ hb.2) (fun j hj => ?_) h0 (crc_one _ _ _ hb.2 hb.1)
    rw [oneE_at, h.2.2 j hj]
    by_cases h1 : j = k / 8
    · simp only [h1, if_true]
    · simp only [if_neg h1]

theorem Owns.form {B : Nat} {w : World} {v : Value} {zs : List Int} (h : Owns B w v zs) (h0 : 0 < zs.length) : ∃ g cap, v = .slice (some ⟨g, 0, none⟩) zs.length cap ∧ B ≤ g ∧ g < w.heap.size := by
  rcases h.2 with ⟨rfl, hn⟩ | ⟨g, cap, cur, rfl, hb, hh, hnc, _, hsz, htk⟩
  · omega
  · exact ⟨g, cap, rfl, hb, (Array.getElem?_eq_some_iff.1 hh).1⟩

theorem cell_own {B : Nat} {w : World} {g n cap : Nat} {zs : List Int} (h : w.ownsRow B 5 1 (.slice (some ⟨g, 0, none⟩) n cap) n (zs.map (Value.int .u8))) (j : Nat) (hj : j < zs.length) : w.cell? ⟨g, j, none⟩ = some (.int .u8 (zs[j]?.getD 0)) := by
  have hn : zs.length = n := by have := h.1; simpa using this
  rw [World.ownsRow.cellAt h j (by omega)]
  simp [hj]
theorem good_own {B : Nat} {w : World} {g n cap : Nat} {zs : List Int} (h : w.ownsRow B 5 1 (.slice (some ⟨g, 0, none⟩) n cap) n (zs.map (Value.int .u8))) : Good (some ⟨g, 0, none⟩) cap zs w := by
  have hn : zs.length = n := by have := h.1; simpa using this
  subst hn
  obtain ⟨A, c, e, hg⟩ := Owns.good (B := B) (v := .slice (some ⟨g, 0, none⟩) zs.length cap) h
  cases e
  exact hg
theorem set_own {B : Nat} {w : World} {g n cap : Nat} {zs : List Int} (h : w.ownsRow B 5 1 (.slice (some ⟨g, 0, none⟩) n cap) n (zs.map (Value.int .u8))) (j : Nat) (y : Int) : (w.setCell ⟨g, j, none⟩ (.int .u8 y)).ownsRow B 5 1 (.slice (some ⟨g, 0, none⟩) n cap) n ((zs.set j y).map (Value.int .u8)) := by
  rw [List.map_set]
  exact (World.ownsRow.stored h j (.int .u8 y)).1

set_option maxHeartbeats 2000000 in
theorem sumBits_in (S : SumOK) (A : Option Addr) (zs : List Int) (l c k : Nat) (two : Bool) (hll : zs.length = l) (hz : isBytes zs) (h1 : l ≤ 1000) (hk : k < 8 * (l + 3) - 1) (w : World) (g : Good A c zs w) (hA : Hid (Alive w)) :
    Calls Try.prog 5 #[.slice A l c, .int .i64 k, .bool two] w fun e w' => e = .returned (.bool true) ∧ Below w.heap.size w w' := by
  go_enter Try.func5, Try.ntmps5
  go_wp2_with fail
  refine Calls.mono hA.out ?_
  clear hA
  rintro e w1 ⟨rfl, b1⟩
  have g1 := g.below b1
  clear g
  go_wp2_with fail
  refine (S.seals A zs (sealL zs) c l hll hz (by omega) rfl w1 g1).mono ?_
  rintro e w2 ⟨v, rfl, o2, k2⟩
  obtain ⟨gb, cap, rfl, hgb, _⟩ := o2.form (by rw [sealL_length]; omega)
  have b2 := below_more b1 k2 (Nat.le_refl _)
  have gz2 := g1.below k2
  obtain ⟨A2, c2, e2, g2⟩ := o2.good
  cases e2
  have hsl : (sealL zs).length = l + 3 := by rw [sealL_length, hll]
  have hop := open_seal zs
  have hsb := sealL_bytes hz
  have q1 := S.opens (some ⟨gb, 0, none⟩) (sealL zs) zs cap (l + 3) true hsl hsb (by omega) hop.1 hop.2 w2 g2
  rw [hsl]
  have b2' : w.heap.size ≤ gb := Nat.le_trans b1.size hgb
  clear g1 b1
  go_wp2_with fail
  refine q1.mono ?_
  clear q1
  rintro e w3 ⟨A3, c3, rfl, g3, k3⟩
  have b3 := below_more b2 k3 (Nat.le_refl _)
  have gz3 := gz2.below k3
  have o3 := o2.below k3
  clear gz2 g2 o2 b2 k3
  rw [hll]
  go_wp2_with fail
  refine (sameB A3 A zs zs c3 c l l true hll hll (by omega) (by omega) (by simp) w3 g3 gz3).mono ?_
  rintro e w4 ⟨rfl, k4⟩
  have b4 := below_more b3 k4 (Nat.le_refl _)
  have o4 := o3.below k4
  clear gz3 g3 o3 b3 k4
  have hs0 : sumB (sealL zs) = 0 := sumB_seal hz
  obtain ⟨gz, gt, hsz⟩ : ∃ ss, ss = sealL zs ∧ True := ⟨_, rfl, trivial⟩
  rw [← gt] at o4 hsl hsb hs0
  clear hop gt hsz
  unfold Owns at o4
  rw [hsl] at o4
  have ht0 := Turned.refl hsb
  have hc := cell_own o4 (k / 8) (by rw [hsl]; omega)
  have hf := World.ownsRow.frozenAt o4 (k / 8)
  obtain ⟨y, hy⟩ : ∃ y, bits .xor .u8 (gz[k / 8]?.getD 0) (128 / 2 ^ (k % 8)) = y := ⟨_, rfl⟩
  have ht1 := ht0.step (k / 8) _ (by rw [bitE_int]; have := bitE_in k; omega) y hy
  rw [bitE_int, Int.toNat_natCast] at ht1
  have o5 := set_own o4 (k / 8) y
  have hc2 := cell_own o5 ((k + 1) / 8) (by rw [List.length_set, hsl]; omega)
  have hf2 := World.ownsRow.frozenAt o5 ((k + 1) / 8)
  obtain ⟨y2, hy2⟩ : ∃ y2, bits .xor .u8 ((gz.set (k / 8) y)[(k + 1) / 8]?.getD 0) (128 / 2 ^ ((k + 1) % 8)) = y2 := ⟨_, rfl⟩
  have ht2 := ht1.step ((k + 1) / 8) _ (by rw [bitE_int]; have := bitE_in (k + 1); omega) y2 hy2
  rw [bitE_int, Int.toNat_natCast] at ht2
  have o6 := set_own o5 ((k + 1) / 8) y2
  have n1 := bit_one gz _ k (by rw [hsl]; omega) hsb hs0 ht1
  have n2 := bit_two gz _ k (by rw [hsl]; omega) hsb hs0 ht2
  have hl1 := ht1.1
  have hl2 := ht2.1
  have hb1 := ht1.2.1
  have hb2 := ht2.2.1
  clear ht0 ht1 ht2 hs0 hsb
  generalize (gz.set (k / 8) y)[(k + 1) / 8]?.getD 0 = x2 at *
  generalize gz[k / 8]?.getD 0 = x at *
  have b5 : Below w.heap.size w (w4.setCell ⟨gb, k / 8, none⟩ (.int .u8 y)) := b4.setCell (p := ⟨gb, k / 8, none⟩) (by have := b2'; show w.heap.size ≤ gb; omega) _
  have b6 : Below w.heap.size w ((w4.setCell ⟨gb, k / 8, none⟩ (.int .u8 y)).setCell ⟨gb, (k + 1) / 8, none⟩ (.int .u8 y2)) := b5.setCell (p := ⟨gb, (k + 1) / 8, none⟩) (by have := b2'; show w.heap.size ≤ gb; omega) _
  have c1 := Lib.hid (fun W => S.opens (some ⟨gb, 0, none⟩) (gz.set (k / 8) y) [] cap (l + 3) false (by rw [hl1, hsl]) hb1 (by omega) n1 (openL_no n1) W)
  have c2' := Lib.hid (fun W => S.opens (some ⟨gb, 0, none⟩) ((gz.set (k / 8) y).set ((k + 1) / 8) y2) [] cap (l + 3) false (by rw [hl2, hsl]) hb2 (by omega) n2 (openL_no n2) W)
  have g5 : Good (some ⟨gb, 0, none⟩) cap (gz.set (k / 8) y) (w4.setCell ⟨gb, k / 8, none⟩ (.int .u8 y)) := by
    exact good_own o5
  have g6 : Good (some ⟨gb, 0, none⟩) cap ((gz.set (k / 8) y).set ((k + 1) / 8) y2) ((w4.setCell ⟨gb, k / 8, none⟩ (.int .u8 y)).setCell ⟨gb, (k + 1) / 8, none⟩ (.int .u8 y2)) := by
    exact good_own o6
  clear n1 n2 hl1 hl2 hb1 hb2 o4 o5 o6 S
  generalize hT1 : gz.set (k / 8) y = t1 at *
  generalize hT2 : t1.set ((k + 1) / 8) y2 = t2 at *
  clear hT1 hT2
  cases two with
  | false =>
    clear g6 b6 c2' hc2 hf2 hy2
    go_wp2_with fail
    refine (c1.out _ g5).mono ?_
    rintro e w5 ⟨A5, c5, rfl, _, k5⟩
    have b5' := below_more b5 k5 (Nat.le_refl _)
    clear g5 k5 b5
    go_wp2
    go_ret
    exact ⟨rfl, b5'⟩
  | true =>
    clear g5 b5 c1
    go_wp2_with fail
    refine (c2'.out _ g6).mono ?_
    rintro e w5 ⟨A5, c5, rfl, _, k5⟩
    have b5' := below_more b6 k5 (Nat.le_refl _)
    clear g6 k5 b6
    go_wp2
    go_ret
    exact ⟨rfl, b5'⟩

set_option maxHeartbeats 2000000 in
theorem sumBits_out (S : SumOK) (A : Option Addr) (zs : List Int) (l c : Nat) (bit : Int) (two : Bool) (hll : zs.length = l) (hz : isBytes zs) (h1 : l ≤ 1000) (hk : bit < 0 ∨ (0 ≤ bit ∧ 8 * ((l : Int) + 3) - 1 ≤ bit)) (w : World) (g : Good A c zs w) (hA : Hid (Alive w)) :
    Calls Try.prog 5 #[.slice A l c, .int .i64 bit, .bool two] w fun e w' => e = .returned (.bool true) ∧ Below w.heap.size w w' := by
  have hsl : (sealL zs).length = l + 3 := by rw [sealL_length, hll]
  have hop := open_seal zs
  have hsb := sealL_bytes hz
  rcases hk with hk | ⟨hk0, hk⟩
  all_goals
    go_enter Try.func5, Try.ntmps5
    go_wp2_with fail
    refine Calls.mono hA.out ?_
    clear hA
    rintro e w1 ⟨rfl, b1⟩
    have g1 := g.below b1
    clear g
    go_wp2_with fail
    refine (S.seals A zs (sealL zs) c l hll hz (by omega) rfl w1 g1).mono ?_
    rintro e w2 ⟨v, rfl, o2, k2⟩
    have b2 := below_more b1 k2 (Nat.le_refl _)
    have gz2 := g1.below k2
    obtain ⟨A2, c2, rfl, g2⟩ := o2.good
    have q1 := S.opens A2 (sealL zs) zs c2 (l + 3) true hsl hsb (by omega) hop.1 hop.2 w2 g2
    rw [hsl]
    clear g1 b1 o2 k2
    go_wp2_with fail
    refine q1.mono ?_
    clear q1
    rintro e w3 ⟨A3, c3, rfl, g3, k3⟩
    have b3 := below_more b2 k3 (Nat.le_refl _)
    have gz3 := gz2.below k3
    clear gz2 g2 b2 k3
    rw [hll]
    go_wp2_with fail
    refine (sameB A3 A zs zs c3 c l l true hll hll (by omega) (by omega) (by simp) w3 g3 gz3).mono ?_
    rintro e w4 ⟨rfl, k4⟩
    have b4 := below_more b3 k4 (Nat.le_refl _)
    clear gz3 g3 b3 k4
    go_wp2
    go_ret
    exact ⟨rfl, b4⟩

theorem sumBits_any (S : SumOK) (hA : ∀ w, Alive w) (A : Option Addr) (zs : List Int) (l c : Nat) (bit : Int) (two : Bool) (hll : zs.length = l) (m : l ≤ 9223372036854775807) (hz : isBytes zs) (w : World) (g : Good A c zs w) :
    Calls Try.prog 5 #[.slice A l c, .int .i64 bit, .bool two] w fun e w' => e = .returned (.bool true) ∧ Below w.heap.size w w' := by
  by_cases h : l ≤ 1000
  · by_cases hk : 0 ≤ bit ∧ bit < 8 * ((l : Int) + 3) - 1
    · obtain ⟨k, rfl⟩ : ∃ k : Nat, bit = k := ⟨bit.toNat, by omega⟩
      exact sumBits_in S A zs l c k two hll hz h (by omega) w g (Lib.hid (hA w))
    · exact sumBits_out S A zs l c bit two hll hz h (by omega) w g (Lib.hid (hA w))
  · exact sumBits_long A l c bit two m (by omega) w (Lib.hid (hA w))
end Go.Proofs.Ytnllacoimffjpaa
