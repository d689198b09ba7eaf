/- A record's bytes (encL), and the parts of rec.Encode: widths, words as bytes, a value's bytes. -/
import Derived.Test.YtlohogcddelekaaEc
import Derived.Deep.RegionHeld3
namespace Go.Proofs.Ytlohogcddelekaa
open Go.RowKit Go.Deep

def zigN (n : Int) : Nat := (zigI n).toNat
def valL (t : Bool) (n : Int) : List Int := if t then bytesL (zigN n) (nb (zigN n)) else []
def less (t : Bool) (n : Int) : Nat := if t then nb (zigN n) - 1 else 0
def bitN (b : Bool) : Nat := if b then 1 else 0
def flagsN (r : RecD) : Nat := bitN r.oT + 2 * bitN r.nT + 4 * less r.oT r.oN + 32 * less r.nT r.nN
def headN (r : RecD) : Nat := (r.kind - 1 + 8 * r.tx).toNat
def tailL (r : RecD) : List Int :=
  if r.kind = 2 ∨ r.kind = 8 then bytesL r.mask 2
  else if r.kind = 1 ∨ r.kind = 7 then [r.k0, r.k1, r.k2, r.k3] ++ ((flagsN r : Int) :: (valL r.oT r.oN ++ valL r.nT r.nN))
  else []
/-- A right record's bytes. -/
def encL (r : RecD) : List Int := bytesL (headN r) 3 ++ tailL r
def isI64 (n : Int) : Prop := -9223372036854775808 ≤ n ∧ n ≤ 9223372036854775807
/-- A record as it can be. -/
structure okR (r : RecD) : Prop where
  mask : r.mask < 65536
  k0 : 0 ≤ r.k0 ∧ r.k0 < 256
  k1 : 0 ≤ r.k1 ∧ r.k1 < 256
  k2 : 0 ≤ r.k2 ∧ r.k2 < 256
  k3 : 0 ≤ r.k3 ∧ r.k3 < 256
  oN : isI64 r.oN
  nN : isI64 r.nN

theorem ret_i {k : IntKind} {a b : Int} (h : a = b) : Ending.returned (.int k a) = .returned (.int k b) := by rw [h]
theorem zigN_lt (n : Int) (h : isI64 n) : zigN n < 18446744073709551616 := by
  have := zig_lt n h.1 h.2
  have := zig_nonneg n
  unfold zigN; omega
theorem zigN_cast (n : Int) : ((zigN n : Nat) : Int) = zigI n := by
  have := zig_nonneg n
  unfold zigN; omega
theorem bitN_le (b : Bool) : bitN b ≤ 1 := by cases b <;> simp [bitN]
theorem less_le (t : Bool) (n : Int) : less t n ≤ 7 := by
  unfold less
  split
  · have := nb_bd (zigN n); omega
  · omega
theorem valL_length (t : Bool) (n : Int) : (valL t n).length = if t then nb (zigN n) else 0 := by
  unfold valL; split <;> simp [bytesL_length]
theorem valL_le (t : Bool) (n : Int) : (valL t n).length ≤ 8 := by
  rw [valL_length]; have := nb_bd (zigN n); split <;> omega
theorem valL_bytes (t : Bool) (n : Int) : isBytes (valL t n) := by
  unfold valL; split
  · exact bytesL_bytes _ _
  · intro z hz; cases hz

/-! ### what calls answer as bytes of one's own -/
theorem Owns.base {B B' : Nat} {w : World} {v : Value} {zs : List Int} (h : Owns B w v zs) (hB : B' ≤ B) : Owns B' w v zs := by
  refine ⟨h.1, ?_⟩
  rcases h.2 with h | ⟨g, cap, cur, h1, h2, h3⟩
  · exact .inl h
  · exact .inr ⟨g, cap, cur, h1, Nat.le_trans hB h2, h3⟩
theorem owns_row {base b n : Nat} {w : World} {f : Nat → Int} {zs : List Int} (h : w.rowIs b 5 n (fun j => .int .u8 (f j))) (hb : base ≤ b) (hn : n ≤ 10000) (hl : zs.length = n) (hz : ∀ j, j < n → zs[j]?.getD 0 = f j) : Owns base w (.slice (some ⟨b, 0, none⟩) n n) zs := by
  obtain ⟨c, h1, h2, h3⟩ := h
  subst hl
  refine ⟨by simp, .inr ⟨b, zs.length, c, rfl, hb, h1, Nat.le_refl _, by simp only [maxLen]; omega, by simp [h2], ?_⟩⟩
  apply List.ext_getElem
  · simp [h2]
  · intro i h4 h5
    have hi : i < zs.length := by simpa using h5
    have e := h3 i hi
    have e2 := hz i hi
    simp [hi] at e2
    rw [Array.getElem?_eq_getElem (by omega)] at e
    simp at e
    simp [e, e2]
theorem bytes_owns (u : Nat) (hu : u < 18446744073709551616) (n : Nat) (h : n ≤ 8) (hz : u / 2 ^ (8 * n) = 0) (w : World) : Calls Try.prog 27 #[.int .u64 u, .int .i64 n] w (GivesB (bytesL u n) w) := by
  refine (bytes_yes u hu n h hz w).mono ?_
  rintro e w' ⟨rfl, hr, hb⟩
  exact ⟨_, rfl, owns_row hr (Nat.le_refl _) (by omega) (bytesL_length u n) (fun j hj => bytesL_at u n j hj), hb⟩

def GivesW (ws : List Int) (w : World) (e : Ending) (w' : World) : Prop := e = .returned (.slice (some ⟨w.heap.size, 0, none⟩) ws.length ws.length) ∧ Ints .i64 w'.heap.size w' (some ⟨w.heap.size, 0, none⟩) ws ∧ Below w.heap.size w w'
theorem ints_lit (k : IntKind) (w : World) (zs : List Int) (t : TypeId) (C : Array Value) (hC : C = (zs.map (Value.int k)).toArray) : Ints k (w.alloc (.cells C t)).heap.size (w.alloc (.cells C t)) (some ⟨w.heap.size, 0, none⟩) zs := by
  subst hC
  refine fun _ => ⟨w.heap.size, 0, rfl, by simp, fun j hj => ?_⟩
  rw [Nat.zero_add, cell_of_row _ w.heap.size j _ t (0, 0) (heap_alloc_new w _)]
  simp [hj]
set_option maxHeartbeats 400000 in
theorem headWidths_any (w : World) : Calls Try.prog 26 #[] w (GivesW [3, 21] w) := by
  go_enter Try.func26, Try.ntmps26
  go_wp2
  go_ret
  exact ⟨rfl, ints_lit .i64 w [3, 21] 3 _ rfl, (Below.refl _ _).alloc (Nat.le_refl _) _⟩
set_option maxHeartbeats 400000 in
theorem flagWidths_any (w : World) : Calls Try.prog 41 #[] w (GivesW [1, 1, 3, 3] w) := by
  go_enter Try.func41, Try.ntmps41
  go_wp2
  go_ret
  exact ⟨rfl, ints_lit .i64 w [1, 1, 3, 3] 3 _ rfl, (Below.refl _ _).alloc (Nat.le_refl _) _⟩
set_option maxHeartbeats 400000 in
theorem packed_any (n u : Nat) (ws vs : List Int) (A A' : Option Addr) (c c' l l' : Nat) (hn : n ≤ 8) (hl : ws.length = l) (hl' : vs.length = l') (hv : i64s vs) (hk : packOK ws vs = true) (hu : packN ws vs = u) (hu2 : u < 18446744073709551616) (hz : u / 2 ^ (8 * n) = 0) (w : World) (hI : Ints .i64 w.heap.size w A ws) (hI' : Ints .i64 w.heap.size w A' vs) :
    Calls Try.prog 25 #[.int .i64 n, .slice A l c, .slice A' l' c'] w (GivesB (bytesL u n) w) := by
  have hlw : ws.length ≤ 64 := okW_short ws (by simp only [packOK, Bool.and_eq_true] at hk; exact hk.1)
  have c1 := pack_gives ws vs hv (by omega) u true (by rw [hk, hu]; rfl) hk A A' c c' l l' hl hl' w hI hI'
  have c2 := fun W => bytes_owns u hu2 n hn hz W
  clear hk hu hz hI hI' hu2 hl hl' hlw hv
  go_enter Try.func25, Try.ntmps25
  go_wp2_with fail
  refine c1.mono ?_
  rintro e w1 ⟨rfl, b1⟩
  go_wp2_with fail
  refine (c2 _).mono ?_
  rintro e w2 ⟨v, rfl, o2, b2⟩
  go_wp2
  go_ret
  exact ⟨v, rfl, o2.base b1.size, below_more b1 b2 (Nat.le_refl _)⟩
set_option maxHeartbeats 400000 in
theorem bit_any (b : Bool) (w : World) : Calls Try.prog 42 #[.bool b] w fun e w' => e = .returned (.int .i64 (bitN b)) ∧ w = w' := by
  cases b
  all_goals
    go_enter Try.func42, Try.ntmps42
    go_wp2
    go_ret
    exact ⟨rfl, rfl⟩
set_option maxHeartbeats 400000 in
theorem lessOne_any (A : Option Addr) (l c q : Nat) (hl : l ≤ 8) (hq : l - 1 = q) (w : World) : Calls Try.prog 43 #[.slice A l c] w fun e w' => e = .returned (.int .i64 q) ∧ w = w' := by
  have hm : (1 < (l : Int) → (l : Int) - 1 = (q : Int)) ∧ ((l : Int) ≤ 1 → (0 : Int) = (q : Int)) := by omega
  have HM := Lib.hid hm
  clear hm hq
  go_enter Try.func43, Try.ntmps43
  go_wp2
  · go_ret
    exact ⟨ret_i (HM.out.1 (by assumption)), rfl⟩
  · go_ret
    exact ⟨ret_i (HM.out.2 (by assumption)), rfl⟩
set_option maxHeartbeats 1000000 in
theorem valBytes_any (t : Bool) (n : Int) (hn : isI64 n) (w : World) : Calls Try.prog 40 #[.agg #[.bool t, .int .i64 n]] w (GivesB (valL t n) w) := by
  cases t
  · go_enter Try.func40, Try.ntmps40
    go_wp2
    go_ret
    exact ⟨_, rfl, ⟨rfl, .inl ⟨rfl, rfl⟩⟩, (Below.refl _ _).alloc (Nat.le_refl _) _⟩
  · have c1 := fun W => zig_any n hn.1 (by have := hn.2; omega) W
    rw [← zigN_cast] at c1
    have hlt := zigN_lt n hn
    have c2 := fun W => len64_any (zigN n) hlt W
    have c3 := fun W => bytes_owns (zigN n) hlt (nb (zigN n)) (nb_bd _).2 (nb_fit _ hlt) W
    have e : valL true n = bytesL (zigN n) (nb (zigN n)) := rfl
    rw [e]
    generalize zigN n = u at *
    unfold LenPost at c2
    generalize nb u = k at *
    clear e hn hlt
    go_enter Try.func40, Try.ntmps40
    go_wp2_with fail
    refine (c1 _).mono ?_
    rintro e w' ⟨rfl, rfl⟩
    go_wp2_with fail
    refine (c2 _).mono ?_
    rintro e w' ⟨L, rfl, h0, h1, hm, rfl⟩
    obtain ⟨q, hq⟩ : ∃ q, (L + 7) / 8 = q := ⟨_, rfl⟩
    rw [hq] at hm
    by_cases h : 1 < q
    · obtain rfl : q = (k : Int) := by omega
      clear hm
      go_wp2_with fail
      refine (c3 _).mono ?_
      rintro e w2 ⟨v, rfl, o2, b2⟩
      go_wp2
      go_ret
      exact ⟨v, rfl, o2.base (by simp), ((Below.refl _ _).alloc (Nat.le_refl _) _).trans (b2.mono (by simp))⟩
    · obtain rfl : k = 1 := by omega
      clear hm
      go_wp2_with fail
      refine (c3 _).mono ?_
      rintro e w2 ⟨v, rfl, o2, b2⟩
      go_wp2
      go_ret
      exact ⟨v, rfl, o2.base (by simp), ((Below.refl _ _).alloc (Nat.le_refl _) _).trans (b2.mono (by simp))⟩
end Go.Proofs.Ytlohogcddelekaa
