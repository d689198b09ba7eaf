/- A record's bytes as plain mathematics: how many bytes a number has; math/bits.Len64 in bytes. A record's bytes (encL), and the parts of rec.Encode: widths, words as bytes, a value's bytes. rec.valsBytes: two values' flags and bytes. -/
import Derived.Test.YtdmkkfpbgpijjaaGreatWag
import Derived.Test.YtdmkkfpbgpijjaaGreatWac
import Derived.Lib.Tables
import Derived.Deep.RegionHeld3
namespace Go.Proofs.YtdmkkfpbgpijjaaGreat
open Go.RowKit Go.Deep

/-- How many bytes a word has, one at least. -/
def nb (u : Nat) : Nat := if u < 256 then 1 else if u < 65536 then 2 else if u < 16777216 then 3 else if u < 4294967296 then 4 else if u < 1099511627776 then 5 else if u < 281474976710656 then 6 else if u < 72057594037927936 then 7 else 8
theorem nb_bd (u : Nat) : 1 ≤ nb u ∧ nb u ≤ 8 := by
  unfold nb; repeat (first | split | omega)
theorem nb_fit (u : Nat) (h : u < 18446744073709551616) : u / 2 ^ (8 * nb u) = 0 := by
  unfold nb
  repeat (first | split | (apply Nat.div_eq_of_lt; simp; omega))
theorem len8_bd : ∀ x : Nat, x < 256 → 0 ≤ Lib.len8 x ∧ Lib.len8 x ≤ 8 := by decide +kernel
theorem len8_pos : ∀ x : Nat, x < 256 → 1 ≤ x → 1 ≤ Lib.len8 x := by decide +kernel
def LenPost (u : Nat) (w : World) (e : Ending) (w' : World) : Prop := ∃ L : Int, e = .returned (.int .i64 L) ∧ 0 ≤ L ∧ L ≤ 64 ∧ max 1 ((L + 7) / 8) = ((nb u : Nat) : Int) ∧ w = w'
theorem len_post (u j x : Nat) (y L : Int) (hx : x < 256) (hp : 0 < j → 1 ≤ x) (hj : j ≤ 7) (hn : nb u = j + 1) (hy : y = (x : Int)) (hL : L = 8 * (j : Int) + Lib.len8 y) (w : World) : LenPost u w (.returned (.int .i64 L)) w := by
  subst hy
  have hb := len8_bd x hx
  refine ⟨L, rfl, by omega, by omega, ?_, rfl⟩
  rw [hn]
  rcases Nat.eq_zero_or_pos j with h0 | h0
  · subst h0
    omega
  · have := len8_pos x hx (hp h0)
    omega
theorem wrap_len (x : Nat) (hx : x < 256) (k : Int) (h0 : 0 ≤ k) (h1 : k ≤ 56) : wrap64 (Lib.len8 x) = Lib.len8 x ∧ wrap64 (k + Lib.len8 x) = k + Lib.len8 x := by
  have hb := len8_bd x hx
  unfold wrap64
  constructor <;> omega
set_option maxRecDepth 100000 in
set_option maxHeartbeats 1000000 in
theorem len64_0 (u : Nat) (h1 : 0 ≤ u) (h2 : u < 256) (w : World) : Calls Tryz.prog 115 #[.int .u64 u] w (LenPost u w) := by
  have hn : nb u = 0 + 1 := by unfold nb; rw [if_pos (by omega)]
  have da : decide ((4294967296 : Int) ≤ (u : Int)) = false := by simp; omega
  have db : decide ((65536 : Int) ≤ (u : Int)) = false := by simp; omega
  have dc : decide ((256 : Int) ≤ (u : Int)) = false := by simp; omega
  have hm : (u : Int) % 256 = (u : Int) := by omega
  have HP := Lib.hid (fun L hL => len_post u 0 u (u : Int) L (by omega) (by omega) (by omega) hn rfl hL w)
  have hle : (u : Int) ≤ 255 := by omega
  have hw := wrap_len u (by omega) 0 (by omega) (by omega)
  obtain ⟨hw1, hw2⟩ := hw
  clear hn h1 h2 
  go_enter Tryz.func115, Tryz.ntmps115
  go_wp2
  go_ret
  exact HP.out _ (by rw [hw1]; omega)
set_option maxRecDepth 100000 in
set_option maxHeartbeats 1000000 in
theorem len64_1 (u : Nat) (h1 : 256 ≤ u) (h2 : u < 65536) (w : World) : Calls Tryz.prog 115 #[.int .u64 u] w (LenPost u w) := by
  have hn : nb u = 1 + 1 := by unfold nb; rw [if_neg (by omega)]; rw [if_pos (by omega)]
  have da : decide ((4294967296 : Int) ≤ (u : Int)) = false := by simp; omega
  have db : decide ((65536 : Int) ≤ (u : Int)) = false := by simp; omega
  have dc : decide ((256 : Int) ≤ (u : Int)) = true := by simp; omega
  obtain ⟨c, ec⟩ : ∃ c : Nat, c = u / 256 := ⟨_, rfl⟩
  have qc : (u : Int) / 256 = (c : Int) := by rw [ec]; simp
  have hm : (c : Int) % 256 = (c : Int) := by omega
  have HP := Lib.hid (fun L hL => len_post u 1 c (c : Int) L (by omega) (by omega) (by omega) hn rfl hL w)
  have hle : (c : Int) ≤ 255 := by omega
  have hw := wrap_len c (by omega) 8 (by omega) (by omega)
  obtain ⟨hw1, hw2⟩ := hw
  clear hn h1 h2 ec
  go_enter Tryz.func115, Tryz.ntmps115
  go_wp2
  go_ret
  exact HP.out _ (by rw [hw2]; omega)
set_option maxRecDepth 100000 in
set_option maxHeartbeats 1000000 in
theorem len64_2 (u : Nat) (h1 : 65536 ≤ u) (h2 : u < 16777216) (w : World) : Calls Tryz.prog 115 #[.int .u64 u] w (LenPost u w) := by
  have hn : nb u = 2 + 1 := by unfold nb; rw [if_neg (by omega)]; rw [if_neg (by omega)]; rw [if_pos (by omega)]
  have da : decide ((4294967296 : Int) ≤ (u : Int)) = false := by simp; omega
  have db : decide ((65536 : Int) ≤ (u : Int)) = true := by simp; omega
  obtain ⟨b, eb⟩ : ∃ b : Nat, b = u / 65536 := ⟨_, rfl⟩
  have qb : (u : Int) / 65536 = (b : Int) := by rw [eb]; simp
  have dc : decide ((256 : Int) ≤ (b : Int)) = false := by simp; omega
  have hm : (b : Int) % 256 = (b : Int) := by omega
  have HP := Lib.hid (fun L hL => len_post u 2 b (b : Int) L (by omega) (by omega) (by omega) hn rfl hL w)
  have hle : (b : Int) ≤ 255 := by omega
  have hw := wrap_len b (by omega) 16 (by omega) (by omega)
  obtain ⟨hw1, hw2⟩ := hw
  clear hn h1 h2 eb
  go_enter Tryz.func115, Tryz.ntmps115
  go_wp2
  go_ret
  exact HP.out _ (by rw [hw2]; omega)
set_option maxRecDepth 100000 in
set_option maxHeartbeats 1000000 in
theorem len64_3 (u : Nat) (h1 : 16777216 ≤ u) (h2 : u < 4294967296) (w : World) : Calls Tryz.prog 115 #[.int .u64 u] w (LenPost u w) := by
  have hn : nb u = 3 + 1 := by unfold nb; rw [if_neg (by omega)]; rw [if_neg (by omega)]; rw [if_neg (by omega)]; rw [if_pos (by omega)]
  have da : decide ((4294967296 : Int) ≤ (u : Int)) = false := by simp; omega
  have db : decide ((65536 : Int) ≤ (u : Int)) = true := by simp; omega
  obtain ⟨b, eb⟩ : ∃ b : Nat, b = u / 65536 := ⟨_, rfl⟩
  have qb : (u : Int) / 65536 = (b : Int) := by rw [eb]; simp
  have dc : decide ((256 : Int) ≤ (b : Int)) = true := by simp; omega
  obtain ⟨c, ec⟩ : ∃ c : Nat, c = b / 256 := ⟨_, rfl⟩
  have qc : (b : Int) / 256 = (c : Int) := by rw [ec]; simp
  have hm : (c : Int) % 256 = (c : Int) := by omega
  have HP := Lib.hid (fun L hL => len_post u 3 c (c : Int) L (by omega) (by omega) (by omega) hn rfl hL w)
  have hle : (c : Int) ≤ 255 := by omega
  have hw := wrap_len c (by omega) 24 (by omega) (by omega)
  obtain ⟨hw1, hw2⟩ := hw
  clear hn h1 h2 eb ec
  go_enter Tryz.func115, Tryz.ntmps115
  go_wp2
  go_ret
  exact HP.out _ (by rw [hw2]; omega)
set_option maxRecDepth 100000 in
set_option maxHeartbeats 1000000 in
theorem len64_4 (u : Nat) (h1 : 4294967296 ≤ u) (h2 : u < 1099511627776) (w : World) : Calls Tryz.prog 115 #[.int .u64 u] w (LenPost u w) := by
  have hn : nb u = 4 + 1 := by unfold nb; rw [if_neg (by omega)]; rw [if_neg (by omega)]; rw [if_neg (by omega)]; rw [if_neg (by omega)]; rw [if_pos (by omega)]
  have da : decide ((4294967296 : Int) ≤ (u : Int)) = true := by simp; omega
  obtain ⟨a, ea⟩ : ∃ a : Nat, a = u / 4294967296 := ⟨_, rfl⟩
  have qa : (u : Int) / 4294967296 = (a : Int) := by rw [ea]; simp
  have db : decide ((65536 : Int) ≤ (a : Int)) = false := by simp; omega
  have dc : decide ((256 : Int) ≤ (a : Int)) = false := by simp; omega
  have hm : (a : Int) % 256 = (a : Int) := by omega
  have HP := Lib.hid (fun L hL => len_post u 4 a (a : Int) L (by omega) (by omega) (by omega) hn rfl hL w)
  have hle : (a : Int) ≤ 255 := by omega
  have hw := wrap_len a (by omega) 32 (by omega) (by omega)
  obtain ⟨hw1, hw2⟩ := hw
  clear hn h1 h2 ea
  go_enter Tryz.func115, Tryz.ntmps115
  go_wp2
  go_ret
  exact HP.out _ (by rw [hw2]; omega)
set_option maxRecDepth 100000 in
set_option maxHeartbeats 1000000 in
theorem len64_5 (u : Nat) (h1 : 1099511627776 ≤ u) (h2 : u < 281474976710656) (w : World) : Calls Tryz.prog 115 #[.int .u64 u] w (LenPost u w) := by
  have hn : nb u = 5 + 1 := by unfold nb; rw [if_neg (by omega)]; rw [if_neg (by omega)]; rw [if_neg (by omega)]; rw [if_neg (by omega)]; rw [if_neg (by omega)]; rw [if_pos (by omega)]
  have da : decide ((4294967296 : Int) ≤ (u : Int)) = true := by simp; omega
  obtain ⟨a, ea⟩ : ∃ a : Nat, a = u / 4294967296 := ⟨_, rfl⟩
  have qa : (u : Int) / 4294967296 = (a : Int) := by rw [ea]; simp
  have db : decide ((65536 : Int) ≤ (a : Int)) = false := by simp; omega
  have dc : decide ((256 : Int) ≤ (a : Int)) = true := by simp; omega
  obtain ⟨c, ec⟩ : ∃ c : Nat, c = a / 256 := ⟨_, rfl⟩
  have qc : (a : Int) / 256 = (c : Int) := by rw [ec]; simp
  have hm : (c : Int) % 256 = (c : Int) := by omega
  have HP := Lib.hid (fun L hL => len_post u 5 c (c : Int) L (by omega) (by omega) (by omega) hn rfl hL w)
  have hle : (c : Int) ≤ 255 := by omega
  have hw := wrap_len c (by omega) 40 (by omega) (by omega)
  obtain ⟨hw1, hw2⟩ := hw
  clear hn h1 h2 ea ec
  go_enter Tryz.func115, Tryz.ntmps115
  go_wp2
  go_ret
  exact HP.out _ (by rw [hw2]; omega)
set_option maxRecDepth 100000 in
set_option maxHeartbeats 1000000 in
theorem len64_6 (u : Nat) (h1 : 281474976710656 ≤ u) (h2 : u < 72057594037927936) (w : World) : Calls Tryz.prog 115 #[.int .u64 u] w (LenPost u w) := by
  have hn : nb u = 6 + 1 := by unfold nb; rw [if_neg (by omega)]; rw [if_neg (by omega)]; rw [if_neg (by omega)]; rw [if_neg (by omega)]; rw [if_neg (by omega)]; rw [if_neg (by omega)]; rw [if_pos (by omega)]
  have da : decide ((4294967296 : Int) ≤ (u : Int)) = true := by simp; omega
  obtain ⟨a, ea⟩ : ∃ a : Nat, a = u / 4294967296 := ⟨_, rfl⟩
  have qa : (u : Int) / 4294967296 = (a : Int) := by rw [ea]; simp
  have db : decide ((65536 : Int) ≤ (a : Int)) = true := by simp; omega
  obtain ⟨b, eb⟩ : ∃ b : Nat, b = a / 65536 := ⟨_, rfl⟩
  have qb : (a : Int) / 65536 = (b : Int) := by rw [eb]; simp
  have dc : decide ((256 : Int) ≤ (b : Int)) = false := by simp; omega
  have hm : (b : Int) % 256 = (b : Int) := by omega
  have HP := Lib.hid (fun L hL => len_post u 6 b (b : Int) L (by omega) (by omega) (by omega) hn rfl hL w)
  have hle : (b : Int) ≤ 255 := by omega
  have hw := wrap_len b (by omega) 48 (by omega) (by omega)
  obtain ⟨hw1, hw2⟩ := hw
  clear hn h1 h2 ea eb
  go_enter Tryz.func115, Tryz.ntmps115
  go_wp2
  go_ret
  exact HP.out _ (by rw [hw2]; omega)
set_option maxRecDepth 100000 in
set_option maxHeartbeats 1000000 in
theorem len64_7 (u : Nat) (h1 : 72057594037927936 ≤ u) (h2 : u < 18446744073709551616) (w : World) : Calls Tryz.prog 115 #[.int .u64 u] w (LenPost u w) := by
  have hn : nb u = 7 + 1 := by unfold nb; rw [if_neg (by omega)]; rw [if_neg (by omega)]; rw [if_neg (by omega)]; rw [if_neg (by omega)]; rw [if_neg (by omega)]; rw [if_neg (by omega)]; rw [if_neg (by omega)]
  have da : decide ((4294967296 : Int) ≤ (u : Int)) = true := by simp; omega
  obtain ⟨a, ea⟩ : ∃ a : Nat, a = u / 4294967296 := ⟨_, rfl⟩
  have qa : (u : Int) / 4294967296 = (a : Int) := by rw [ea]; simp
  have db : decide ((65536 : Int) ≤ (a : Int)) = true := by simp; omega
  obtain ⟨b, eb⟩ : ∃ b : Nat, b = a / 65536 := ⟨_, rfl⟩
  have qb : (a : Int) / 65536 = (b : Int) := by rw [eb]; simp
  have dc : decide ((256 : Int) ≤ (b : Int)) = true := by simp; omega
  obtain ⟨c, ec⟩ : ∃ c : Nat, c = b / 256 := ⟨_, rfl⟩
  have qc : (b : Int) / 256 = (c : Int) := by rw [ec]; simp
  have hm : (c : Int) % 256 = (c : Int) := by omega
  have HP := Lib.hid (fun L hL => len_post u 7 c (c : Int) L (by omega) (by omega) (by omega) hn rfl hL w)
  have hle : (c : Int) ≤ 255 := by omega
  have hw := wrap_len c (by omega) 56 (by omega) (by omega)
  obtain ⟨hw1, hw2⟩ := hw
  clear hn h1 h2 ea eb ec
  go_enter Tryz.func115, Tryz.ntmps115
  go_wp2
  go_ret
  exact HP.out _ (by rw [hw2]; omega)
theorem len64_any (u : Nat) (h : u < 18446744073709551616) (w : World) : Calls Tryz.prog 115 #[.int .u64 u] w (LenPost u w) := by
  by_cases c0 : u < 256
  · exact len64_0 u (by omega) c0 w
  by_cases c1 : u < 65536
  · exact len64_1 u (by omega) c1 w
  by_cases c2 : u < 16777216
  · exact len64_2 u (by omega) c2 w
  by_cases c3 : u < 4294967296
  · exact len64_3 u (by omega) c3 w
  by_cases c4 : u < 1099511627776
  · exact len64_4 u (by omega) c4 w
  by_cases c5 : u < 281474976710656
  · exact len64_5 u (by omega) c5 w
  by_cases c6 : u < 72057594037927936
  · exact len64_6 u (by omega) c6 w
  exact len64_7 u (by omega) (by omega) w
end Go.Proofs.YtdmkkfpbgpijjaaGreat
namespace Go.Proofs.YtdmkkfpbgpijjaaGreat
open Go.RowKit Go.Deep

def zigN (n : Int) : Nat := (zigI n).toNat
def valL (t : Bool) (n : Int) : List Int := if t then bytesL (zigN n) (nb (zigN n)) else []
def less (t : Bool) (n : Int) : Nat := if t then nb (zigN n) - 1 else 0
def bitN (b : Bool) : Nat := if b then 1 else 0
def flagsN (r : RecD) : Nat := bitN r.oT + 2 * bitN r.nT + 4 * less r.oT r.oN + 32 * less r.nT r.nN
def headN (r : RecD) : Nat := (r.kind - 1 + 8 * r.tx).toNat
def tailL (r : RecD) : List Int :=
  if r.kind = 2 ∨ r.kind = 8 then bytesL r.mask 2
  else if r.kind = 1 ∨ r.kind = 7 then [r.k0, r.k1, r.k2, r.k3] ++ ((flagsN r : Int) :: (valL r.oT r.oN ++ valL r.nT r.nN))
  else []
/-- A right record's bytes. -/
def encL (r : RecD) : List Int := bytesL (headN r) 3 ++ tailL r
def isI64 (n : Int) : Prop := -9223372036854775808 ≤ n ∧ n ≤ 9223372036854775807
/-- A record as it can be. -/
structure okR (r : RecD) : Prop where
  mask : r.mask < 65536
  k0 : 0 ≤ r.k0 ∧ r.k0 < 256
  k1 : 0 ≤ r.k1 ∧ r.k1 < 256
  k2 : 0 ≤ r.k2 ∧ r.k2 < 256
  k3 : 0 ≤ r.k3 ∧ r.k3 < 256
  oN : isI64 r.oN
  nN : isI64 r.nN

theorem ret_i {k : IntKind} {a b : Int} (h : a = b) : Ending.returned (.int k a) = .returned (.int k b) := by rw [h]
theorem zigN_lt (n : Int) (h : isI64 n) : zigN n < 18446744073709551616 := by
  have := zig_lt n h.1 h.2
  have := zig_nonneg n
  unfold zigN; omega
theorem zigN_cast (n : Int) : ((zigN n : Nat) : Int) = zigI n := by
  have := zig_nonneg n
  unfold zigN; omega
theorem bitN_le (b : Bool) : bitN b ≤ 1 := by cases b <;> simp [bitN]
theorem less_le (t : Bool) (n : Int) : less t n ≤ 7 := by
  unfold less
  split
  · have := nb_bd (zigN n); omega
  · omega
theorem valL_length (t : Bool) (n : Int) : (valL t n).length = if t then nb (zigN n) else 0 := by
  unfold valL; split <;> simp [bytesL_length]
theorem valL_le (t : Bool) (n : Int) : (valL t n).length ≤ 8 := by
  rw [valL_length]; have := nb_bd (zigN n); split <;> omega
theorem valL_bytes (t : Bool) (n : Int) : isBytes (valL t n) := by
  unfold valL; split
  · exact bytesL_bytes _ _
  · intro z hz; cases hz

/-! ### what calls answer as bytes of one's own -/
theorem Owns.base {B B' : Nat} {w : World} {v : Value} {zs : List Int} (h : Owns B w v zs) (hB : B' ≤ B) : Owns B' w v zs := by
  refine ⟨h.1, ?_⟩
  rcases h.2 with h | ⟨g, cap, cur, h1, h2, h3⟩
  · exact .inl h
  · exact .inr ⟨g, cap, cur, h1, Nat.le_trans hB h2, h3⟩
theorem owns_row {base b n : Nat} {w : World} {f : Nat → Int} {zs : List Int} (h : w.rowIs b 5 n (fun j => .int .u8 (f j))) (hb : base ≤ b) (hn : n ≤ 10000) (hl : zs.length = n) (hz : ∀ j, j < n → zs[j]?.getD 0 = f j) : Owns base w (.slice (some ⟨b, 0, none⟩) n n) zs := by
  obtain ⟨c, h1, h2, h3⟩ := h
  subst hl
  refine ⟨by simp, .inr ⟨b, zs.length, c, rfl, hb, h1, Nat.le_refl _, by simp only [maxLen]; omega, by simp [h2], ?_⟩⟩
  apply List.ext_getElem
  · simp [h2]
  · intro i h4 h5
    have hi : i < zs.length := by simpa using h5
    have e := h3 i hi
    have e2 := hz i hi
    simp [hi] at e2
    rw [Array.getElem?_eq_getElem (by omega)] at e
    simp at e
    simp [e, e2]
theorem bytes_owns (u : Nat) (hu : u < 18446744073709551616) (n : Nat) (h : n ≤ 8) (hz : u / 2 ^ (8 * n) = 0) (w : World) : Calls Tryz.prog 86 #[.int .u64 u, .int .i64 n] w (GivesB (bytesL u n) w) := by
  refine (bytes_yes u hu n h hz w).mono ?_
  rintro e w' ⟨rfl, hr, hb⟩
  exact ⟨_, rfl, owns_row hr (Nat.le_refl _) (by omega) (bytesL_length u n) (fun j hj => bytesL_at u n j hj), hb⟩

def GivesW (ws : List Int) (w : World) (e : Ending) (w' : World) : Prop := e = .returned (.slice (some ⟨w.heap.size, 0, none⟩) ws.length ws.length) ∧ Ints .i64 w'.heap.size w' (some ⟨w.heap.size, 0, none⟩) ws ∧ Below w.heap.size w w'
theorem ints_lit (k : IntKind) (w : World) (zs : List Int) (t : TypeId) (C : Array Value) (hC : C = (zs.map (Value.int k)).toArray) : Ints k (w.alloc (.cells C t)).heap.size (w.alloc (.cells C t)) (some ⟨w.heap.size, 0, none⟩) zs := by
  subst hC
  refine fun _ => ⟨w.heap.size, 0, rfl, by simp, fun j hj => ?_⟩
  rw [Nat.zero_add, cell_of_row _ w.heap.size j _ t (0, 0) (heap_alloc_new w _)]
  simp [hj]
set_option maxRecDepth 100000 in
set_option maxHeartbeats 400000 in
theorem headWidths_any (w : World) : Calls Tryz.prog 85 #[] w (GivesW [3, 21] w) := by
  go_enter Tryz.func85, Tryz.ntmps85
  go_wp2
  go_ret
  exact ⟨rfl, ints_lit .i64 w [3, 21] 3 _ rfl, (Below.refl _ _).alloc (Nat.le_refl _) _⟩
set_option maxRecDepth 100000 in
set_option maxHeartbeats 400000 in
theorem flagWidths_any (w : World) : Calls Tryz.prog 103 #[] w (GivesW [1, 1, 3, 3] w) := by
  go_enter Tryz.func103, Tryz.ntmps103
  go_wp2
  go_ret
  exact ⟨rfl, ints_lit .i64 w [1, 1, 3, 3] 3 _ rfl, (Below.refl _ _).alloc (Nat.le_refl _) _⟩
set_option maxRecDepth 100000 in
set_option maxHeartbeats 400000 in
theorem packed_any (n u : Nat) (ws vs : List Int) (A A' : Option Addr) (c c' l l' : Nat) (hn : n ≤ 8) (hl : ws.length = l) (hl' : vs.length = l') (hv : i64s vs) (hk : packOK ws vs = true) (hu : packN ws vs = u) (hu2 : u < 18446744073709551616) (hz : u / 2 ^ (8 * n) = 0) (w : World) (hI : Ints .i64 w.heap.size w A ws) (hI' : Ints .i64 w.heap.size w A' vs) :
    Calls Tryz.prog 84 #[.int .i64 n, .slice A l c, .slice A' l' c'] w (GivesB (bytesL u n) w) := by
  have hlw : ws.length ≤ 64 := okW_short ws (by simp only [packOK, Bool.and_eq_true] at hk; exact hk.1)
  have c1 := pack_gives ws vs hv (by omega) u true (by rw [hk, hu]; rfl) hk A A' c c' l l' hl hl' w hI hI'
  have c2 := fun W => bytes_owns u hu2 n hn hz W
  clear hk hu hz hI hI' hu2 hl hl' hlw hv
  go_enter Tryz.func84, Tryz.ntmps84
  go_wp2_with fail
  refine c1.mono ?_
  rintro e w1 ⟨rfl, b1⟩
  go_wp2_with fail
  refine (c2 _).mono ?_
  rintro e w2 ⟨v, rfl, o2, b2⟩
  go_wp2
  go_ret
  exact ⟨v, rfl, o2.base b1.size, below_more b1 b2 (Nat.le_refl _)⟩
set_option maxRecDepth 100000 in
set_option maxHeartbeats 400000 in
theorem bit_any (b : Bool) (w : World) : Calls Tryz.prog 104 #[.bool b] w fun e w' => e = .returned (.int .i64 (bitN b)) ∧ w = w' := by
  cases b
  all_goals
    go_enter Tryz.func104, Tryz.ntmps104
    go_wp2
    go_ret
    exact ⟨rfl, rfl⟩
set_option maxRecDepth 100000 in
set_option maxHeartbeats 400000 in
theorem lessOne_any (A : Option Addr) (l c q : Nat) (hl : l ≤ 8) (hq : l - 1 = q) (w : World) : Calls Tryz.prog 105 #[.slice A l c] w fun e w' => e = .returned (.int .i64 q) ∧ w = w' := by
  have hm : (1 < (l : Int) → (l : Int) - 1 = (q : Int)) ∧ ((l : Int) ≤ 1 → (0 : Int) = (q : Int)) := by omega
  have HM := Lib.hid hm
  clear hm hq
  go_enter Tryz.func105, Tryz.ntmps105
  go_wp2
  · go_ret
    exact ⟨ret_i (HM.out.1 (by assumption)), rfl⟩
  · go_ret
    exact ⟨ret_i (HM.out.2 (by assumption)), rfl⟩
set_option maxRecDepth 100000 in
set_option maxHeartbeats 1000000 in
theorem valBytes_any (t : Bool) (n : Int) (hn : isI64 n) (w : World) : Calls Tryz.prog 102 #[.agg #[.bool t, .int .i64 n]] w (GivesB (valL t n) w) := by
  cases t
  · go_enter Tryz.func102, Tryz.ntmps102
    go_wp2
    go_ret
    exact ⟨_, rfl, ⟨rfl, .inl ⟨rfl, rfl⟩⟩, (Below.refl _ _).alloc (Nat.le_refl _) _⟩
  · have c1 := fun W => zig_any n hn.1 (by have := hn.2; omega) W
    rw [← zigN_cast] at c1
    have hlt := zigN_lt n hn
    have c2 := fun W => len64_any (zigN n) hlt W
    have c3 := fun W => bytes_owns (zigN n) hlt (nb (zigN n)) (nb_bd _).2 (nb_fit _ hlt) W
    have e : valL true n = bytesL (zigN n) (nb (zigN n)) := rfl
    rw [e]
    generalize zigN n = u at *
    unfold LenPost at c2
    generalize nb u = k at *
    clear e hn hlt
    go_enter Tryz.func102, Tryz.ntmps102
    go_wp2_with fail
    refine (c1 _).mono ?_
    rintro e w' ⟨rfl, rfl⟩
    go_wp2_with fail
    refine (c2 _).mono ?_
    rintro e w' ⟨L, rfl, h0, h1, hm, rfl⟩
    obtain ⟨q, hq⟩ : ∃ q, (L + 7) / 8 = q := ⟨_, rfl⟩
    rw [hq] at hm
    by_cases h : 1 < q
    · obtain rfl : q = (k : Int) := by omega
      clear hm
      go_wp2_with fail
      refine (c3 _).mono ?_
      rintro e w2 ⟨v, rfl, o2, b2⟩
      go_wp2
      go_ret
      exact ⟨v, rfl, o2.base (by simp), ((Below.refl _ _).alloc (Nat.le_refl _) _).trans (b2.mono (by simp))⟩
    · obtain rfl : k = 1 := by omega
      clear hm
      go_wp2_with fail
      refine (c3 _).mono ?_
      rintro e w2 ⟨v, rfl, o2, b2⟩
      go_wp2
      go_ret
      exact ⟨v, rfl, o2.base (by simp), ((Below.refl _ _).alloc (Nat.le_refl _) _).trans (b2.mono (by simp))⟩
end Go.Proofs.YtdmkkfpbgpijjaaGreat
namespace Go.Proofs.YtdmkkfpbgpijjaaGreat
open Go.RowKit Go.Deep

theorem flags_pack (a b c d : Nat) (ha : a ≤ 1) (hb : b ≤ 1) (hc : c ≤ 7) (hd : d ≤ 7) :
    packOK [1, 1, 3, 3] [(a : Int), (b : Int), (c : Int), (d : Int)] = true ∧ packN [1, 1, 3, 3] [(a : Int), (b : Int), (c : Int), (d : Int)] = a + 2 * b + 4 * c + 32 * d ∧ i64s [(a : Int), (b : Int), (c : Int), (d : Int)] := by
  refine ⟨?_, ?_, ?_⟩
  · simp [packOK, okW, okVs, okV, sumI]; omega
  · simp [packN]; omega
  · intro v hv
    simp at hv
    omega
theorem head_pack (k t : Int) (h1 : 1 ≤ k) (h2 : k ≤ 8) (h3 : 0 ≤ t) (h4 : t ≤ 1048576) :
    packOK [3, 21] [k - 1, t] = true ∧ packN [3, 21] [k - 1, t] = (k - 1 + 8 * t).toNat ∧ i64s [k - 1, t] := by
  refine ⟨?_, ?_, ?_⟩
  · simp [packOK, okW, okVs, okV, sumI]; omega
  · simp [packN]; omega
  · intro v hv
    simp at hv
    omega
theorem Ints.more' {k : IntKind} {w : World} {A : Option Addr} {zs : List Int} (h : Ints k w.heap.size w A zs) (o : Obj) : Ints k (w.alloc o).heap.size (w.alloc o) A zs := (h.below ((Below.refl _ _).alloc (Nat.le_refl _) o) (Nat.le_refl _)).more (by simp)
theorem one_byte (u : Nat) (h : u < 256) : bytesL u 1 = [(u : Int)] := by
  simp [bytesL, byteAt]; omega
def valsL (oT : Bool) (oN : Int) (nT : Bool) (nN : Int) : List Int := ((bitN oT + 2 * bitN nT + 4 * less oT oN + 32 * less nT nN : Nat) : Int) :: (valL oT oN ++ valL nT nN)
theorem less_of (t : Bool) (n : Int) : (valL t n).length - 1 = less t n := by
  rw [valL_length]; unfold less; split <;> rfl

set_option maxRecDepth 100000 in
set_option maxHeartbeats 2000000 in
theorem valsBytes_any (oT : Bool) (oN : Int) (nT : Bool) (nN : Int) (ho : isI64 oN) (hn : isI64 nN) (w : World) :
    Calls Tryz.prog 87 #[.agg #[.bool oT, .int .i64 oN], .agg #[.bool nT, .int .i64 nN]] w (GivesB (valsL oT oN nT nN) w) := by
  obtain ⟨W0, hW0⟩ : ∃ W0, W0 = (w.alloc (.cells #[.bool oT, .int .i64 oN] 61)).alloc (.cells #[.bool nT, .int .i64 nN] 61) := ⟨_, rfl⟩
  have hs0 : W0.heap.size = w.heap.size + 2 := by rw [hW0]; simp
  have a0 : W0.cell? ⟨w.heap.size, 0, none⟩ = some (.bool oT) := by rw [hW0]; simp [go_sem]
  have a1 : W0.cell? ⟨w.heap.size, 1, none⟩ = some (.int .i64 oN) := by rw [hW0]; simp [go_sem]
  have b0 : W0.cell? ⟨w.heap.size + 1, 0, none⟩ = some (.bool nT) := by rw [hW0]; simp [go_sem]
  have b1 : W0.cell? ⟨w.heap.size + 1, 1, none⟩ = some (.int .i64 nN) := by rw [hW0]; simp [go_sem]
  have kS : ∀ W, Below (w.heap.size + 2) W0 W → (W.cell? ⟨w.heap.size, 0, none⟩ = some (.bool oT) ∧ W.cell? ⟨w.heap.size, 1, none⟩ = some (.int .i64 oN) ∧ W.cell? ⟨w.heap.size + 1, 0, none⟩ = some (.bool nT) ∧ W.cell? ⟨w.heap.size + 1, 1, none⟩ = some (.int .i64 nN) ∧ Below (w.heap.size + 2) W0 W) := fun W hb =>
    ⟨(hb.cell (p := ⟨w.heap.size, 0, none⟩) (by show w.heap.size < _; omega)).trans a0, (hb.cell (p := ⟨w.heap.size, 1, none⟩) (by show w.heap.size < _; omega)).trans a1, (hb.cell (p := ⟨w.heap.size + 1, 0, none⟩) (by show w.heap.size + 1 < _; omega)).trans b0, (hb.cell (p := ⟨w.heap.size + 1, 1, none⟩) (by show w.heap.size + 1 < _; omega)).trans b1, hb⟩
  have hsz : ∀ W, Below (w.heap.size + 2) W0 W → w.heap.size + 2 ≤ W.heap.size := fun W hb => by have := hb.size; omega
  have hw0 : Below w.heap.size w W0 := by rw [hW0]; exact ((Below.refl _ _).alloc (Nat.le_refl _) _).alloc (by simp) _
  have kA : ∀ W o, Below (w.heap.size + 2) W0 W → Below (w.heap.size + 2) W0 (W.alloc o) := fun W o hb => hb.alloc (hsz W hb) o
  have kT : ∀ W W', Below (w.heap.size + 2) W0 W → Below W.heap.size W W' → Below (w.heap.size + 2) W0 W' := fun W W' hb hk => hb.trans (hk.mono (hsz W hb))
  obtain ⟨l1, hl1⟩ : ∃ l1, (valL oT oN).length = l1 := ⟨_, rfl⟩
  obtain ⟨l2, hl2⟩ : ∃ l2, (valL nT nN).length = l2 := ⟨_, rfl⟩
  have m1 : l1 ≤ 8 := by rw [← hl1]; exact valL_le _ _
  have m2 : l2 ≤ 8 := by rw [← hl2]; exact valL_le _ _
  have hp := flags_pack (bitN oT) (bitN nT) (less oT oN) (less nT nN) (bitN_le _) (bitN_le _) (less_le _ _) (less_le _ _)
  have q1 : l1 - 1 = less oT oN := by rw [← hl1]; exact less_of _ _
  have q2 : l2 - 1 = less nT nN := by rw [← hl2]; exact less_of _ _
  have p1 := bitN_le oT
  have p2 := bitN_le nT
  have p3 := less_le oT oN
  have p4 := less_le nT nN
  unfold valsL
  have F1 : ∀ W, (W.cell? ⟨w.heap.size, 0, none⟩ = some (.bool oT) ∧ W.cell? ⟨w.heap.size, 1, none⟩ = some (.int .i64 oN) ∧ W.cell? ⟨w.heap.size + 1, 0, none⟩ = some (.bool nT) ∧ W.cell? ⟨w.heap.size + 1, 1, none⟩ = some (.int .i64 nN) ∧ Below (w.heap.size + 2) W0 W) → Calls Tryz.prog 102 #[.agg #[.bool oT, .int .i64 oN]] W fun e w' => ∃ A c, e = .returned (.slice A l1 c) ∧ Good A c (valL oT oN) w' ∧ Below W.heap.size W w' ∧ (w'.cell? ⟨w.heap.size, 0, none⟩ = some (.bool oT) ∧ w'.cell? ⟨w.heap.size, 1, none⟩ = some (.int .i64 oN) ∧ w'.cell? ⟨w.heap.size + 1, 0, none⟩ = some (.bool nT) ∧ w'.cell? ⟨w.heap.size + 1, 1, none⟩ = some (.int .i64 nN) ∧ Below (w.heap.size + 2) W0 w') := fun W h => by
    refine (valBytes_any oT oN ho W).mono ?_
    rintro e w' ⟨v, rfl, o, k⟩
    obtain ⟨A, c, rfl, g⟩ := o.good
    exact ⟨A, c, by rw [hl1], g, k, kS _ (kT _ _ h.2.2.2.2 k)⟩
  have F2 : ∀ W, (W.cell? ⟨w.heap.size, 0, none⟩ = some (.bool oT) ∧ W.cell? ⟨w.heap.size, 1, none⟩ = some (.int .i64 oN) ∧ W.cell? ⟨w.heap.size + 1, 0, none⟩ = some (.bool nT) ∧ W.cell? ⟨w.heap.size + 1, 1, none⟩ = some (.int .i64 nN) ∧ Below (w.heap.size + 2) W0 W) → Calls Tryz.prog 102 #[.agg #[.bool nT, .int .i64 nN]] W fun e w' => ∃ A c, e = .returned (.slice A l2 c) ∧ Good A c (valL nT nN) w' ∧ Below W.heap.size W w' ∧ (w'.cell? ⟨w.heap.size, 0, none⟩ = some (.bool oT) ∧ w'.cell? ⟨w.heap.size, 1, none⟩ = some (.int .i64 oN) ∧ w'.cell? ⟨w.heap.size + 1, 0, none⟩ = some (.bool nT) ∧ w'.cell? ⟨w.heap.size + 1, 1, none⟩ = some (.int .i64 nN) ∧ Below (w.heap.size + 2) W0 w') := fun W h => by
    refine (valBytes_any nT nN hn W).mono ?_
    rintro e w' ⟨v, rfl, o, k⟩
    obtain ⟨A, c, rfl, g⟩ := o.good
    exact ⟨A, c, by rw [hl2], g, k, kS _ (kT _ _ h.2.2.2.2 k)⟩
  have F3 : ∀ W, (W.cell? ⟨w.heap.size, 0, none⟩ = some (.bool oT) ∧ W.cell? ⟨w.heap.size, 1, none⟩ = some (.int .i64 oN) ∧ W.cell? ⟨w.heap.size + 1, 0, none⟩ = some (.bool nT) ∧ W.cell? ⟨w.heap.size + 1, 1, none⟩ = some (.int .i64 nN) ∧ Below (w.heap.size + 2) W0 W) → Calls Tryz.prog 103 #[] W fun e w' => ∃ A, e = .returned (.slice A 4 4) ∧ Ints .i64 w'.heap.size w' A [1, 1, 3, 3] ∧ Below W.heap.size W w' ∧ (w'.cell? ⟨w.heap.size, 0, none⟩ = some (.bool oT) ∧ w'.cell? ⟨w.heap.size, 1, none⟩ = some (.int .i64 oN) ∧ w'.cell? ⟨w.heap.size + 1, 0, none⟩ = some (.bool nT) ∧ w'.cell? ⟨w.heap.size + 1, 1, none⟩ = some (.int .i64 nN) ∧ Below (w.heap.size + 2) W0 w') := fun W h => by
    refine (flagWidths_any W).mono ?_
    rintro e w' ⟨rfl, i, k⟩
    exact ⟨_, rfl, i, k, kS _ (kT _ _ h.2.2.2.2 k)⟩
  have F4 := fun W => bit_any oT W
  have F5 := fun W => bit_any nT W
  have F6 := fun A c W => lessOne_any A l1 c (less oT oN) m1 q1 W
  have F7 := fun A c W => lessOne_any A l2 c (less nT nN) m2 q2 W
  generalize bitN oT = x1 at *
  generalize bitN nT = x2 at *
  generalize less oT oN = x3 at *
  generalize less nT nN = x4 at *
  have F8 : ∀ A A' c c' W, Ints .i64 W.heap.size W A [1, 1, 3, 3] → Ints .i64 W.heap.size W A' [(x1 : Int), (x2 : Int), (x3 : Int), (x4 : Int)] → Calls Tryz.prog 84 #[.int .i64 1, .slice A 4 c, .slice A' 4 c'] W (GivesB (bytesL (x1 + 2 * x2 + 4 * x3 + 32 * x4) 1) W) := fun A A' c c' W => packed_any 1 (x1 + 2 * x2 + 4 * x3 + 32 * x4) [1, 1, 3, 3] [(x1 : Int), (x2 : Int), (x3 : Int), (x4 : Int)] A A' c c' 4 4 (by omega) rfl rfl hp.2.2 hp.1 hp.2.1 (by omega) (by simp; omega) W
  rw [one_byte _ (by omega)] at F8
  generalize x1 + 2 * x2 + 4 * x3 + 32 * x4 = fl at *
  clear hp q1 q2 p1 p2 p3 p4
  go_enter Tryz.func87, Tryz.ntmps87
  go_wp2_with fail
  rw [← hW0]
  clear hW0
  have s0 := kS W0 (Below.refl _ _)
  have kSD : ∀ W, (W.cell? ⟨w.heap.size, 0, none⟩ = some (.bool oT) ∧ W.cell? ⟨w.heap.size, 1, none⟩ = some (.int .i64 oN) ∧ W.cell? ⟨w.heap.size + 1, 0, none⟩ = some (.bool nT) ∧ W.cell? ⟨w.heap.size + 1, 1, none⟩ = some (.int .i64 nN) ∧ Below (w.heap.size + 2) W0 W) → (W.drew.cell? ⟨w.heap.size, 0, none⟩ = some (.bool oT) ∧ W.drew.cell? ⟨w.heap.size, 1, none⟩ = some (.int .i64 oN) ∧ W.drew.cell? ⟨w.heap.size + 1, 0, none⟩ = some (.bool nT) ∧ W.drew.cell? ⟨w.heap.size + 1, 1, none⟩ = some (.int .i64 nN) ∧ Below (w.heap.size + 2) W0 W.drew) := fun W h => kS _ h.2.2.2.2.drew
  have kSA : ∀ W o, (W.cell? ⟨w.heap.size, 0, none⟩ = some (.bool oT) ∧ W.cell? ⟨w.heap.size, 1, none⟩ = some (.int .i64 oN) ∧ W.cell? ⟨w.heap.size + 1, 0, none⟩ = some (.bool nT) ∧ W.cell? ⟨w.heap.size + 1, 1, none⟩ = some (.int .i64 nN) ∧ Below (w.heap.size + 2) W0 W) → ((W.alloc o).cell? ⟨w.heap.size, 0, none⟩ = some (.bool oT) ∧ (W.alloc o).cell? ⟨w.heap.size, 1, none⟩ = some (.int .i64 oN) ∧ (W.alloc o).cell? ⟨w.heap.size + 1, 0, none⟩ = some (.bool nT) ∧ (W.alloc o).cell? ⟨w.heap.size + 1, 1, none⟩ = some (.int .i64 nN) ∧ Below (w.heap.size + 2) W0 (W.alloc o)) := fun W o h => kS _ (kA _ o h.2.2.2.2)
  go_region_held3 (fun w' => (w'.cell? ⟨w.heap.size, 0, none⟩ = some (.bool oT) ∧ w'.cell? ⟨w.heap.size, 1, none⟩ = some (.int .i64 oN) ∧ w'.cell? ⟨w.heap.size + 1, 0, none⟩ = some (.bool nT) ∧ w'.cell? ⟨w.heap.size + 1, 1, none⟩ = some (.int .i64 nN) ∧ Below (w.heap.size + 2) W0 w')) (first | assumption | exact kSD _ (by assumption) | exact kSA _ _ (by assumption)) (first
    | (go_at_call 102; with_reducible refine (F1 _ (by assumption)).mono ?_; rintro e w1 ⟨A1, c1, rfl, g1, k1, s1⟩)
    | (go_at_call 102; with_reducible refine (F2 _ (by assumption)).mono ?_; rintro e w2 ⟨A2, c2, rfl, g2, k2, s2⟩))
  clear F1 F2
  go_wp2_with fail
  go_region_held3 (fun w' => (w'.cell? ⟨w.heap.size, 0, none⟩ = some (.bool oT) ∧ w'.cell? ⟨w.heap.size, 1, none⟩ = some (.int .i64 oN) ∧ w'.cell? ⟨w.heap.size + 1, 0, none⟩ = some (.bool nT) ∧ w'.cell? ⟨w.heap.size + 1, 1, none⟩ = some (.int .i64 nN) ∧ Below (w.heap.size + 2) W0 w')) (first | assumption | exact kSD _ (by assumption) | exact kSA _ _ (by assumption)) (first
    | (go_at_call 103; with_reducible refine (F3 _ (by assumption)).mono ?_; rintro e w3 ⟨A3, rfl, i3, k3, s3⟩)
    | (go_at_call 104; with_reducible refine (F4 _).mono ?_; rintro e w' ⟨rfl, rfl⟩)
    | (go_at_call 104; with_reducible refine (F5 _).mono ?_; rintro e w' ⟨rfl, rfl⟩)
    | (go_at_call 105; with_reducible refine (F6 _ _ _).mono ?_; rintro e w' ⟨rfl, rfl⟩)
    | (go_at_call 105; with_reducible refine (F7 _ _ _).mono ?_; rintro e w' ⟨rfl, rfl⟩)
    | (go_at_call 84; refine (F8 _ _ _ _ _ (i3.more' _) (ints_lit .i64 w3 _ 3 _ rfl)).mono ?_; rintro e w4 ⟨v4, rfl, o4, k4⟩; have s4 := kS _ (kT _ _ (kA _ _ s3.2.2.2.2) k4)))
  clear F3 F4 F5 F6 F7 F8
  have z1 : Below w2.heap.size w2 w3 := ((Below.refl _ w2).drew).trans k3
  have G1 := ((g1.below k2).below z1).alloc (.cells (List.map (Value.int IntKind.i64) [(x1 : Int), (x2 : Int), (x3 : Int), (x4 : Int)]).toArray 3)
  have G2 := (g2.below z1).alloc (.cells (List.map (Value.int IntKind.i64) [(x1 : Int), (x2 : Int), (x3 : Int), (x4 : Int)]).toArray 3)
  have hW3 : Below w.heap.size w (w3.alloc (.cells (List.map (Value.int IntKind.i64) [(x1 : Int), (x2 : Int), (x3 : Int), (x4 : Int)]).toArray 3)) := (hw0.trans (s3.2.2.2.2.mono (by omega))).alloc (by have := hsz _ s3.2.2.2.2; omega) _
  generalize (w3.alloc (.cells (List.map (Value.int IntKind.i64) [(x1 : Int), (x2 : Int), (x3 : Int), (x4 : Int)]).toArray 3)) = W3 at *
  have G1' := G1.below k4
  clear s1 s2 s3 s4 s0 kSD kSA kA kT kS i3 k3 k2 k1 g1 g2 z1 a0 a1 b0 b1 hsz hw0 hs0
  have hll1 := Lib.hid hl1
  have hll2 := Lib.hid hl2
  clear hl1 hl2
  go_wp2_with (first
    | (at_builtin; refine wpList_appendB rfl _ _ rfl W3.heap.size v4 [(fl : Int)] rfl o4 A1 (valL oT oN) l1 c1 rfl hll1.out G1' (by rw [hll1.out]; simp; omega) k4.size W3 k4 ?_; intro v5 w5 o5 k5)
    | (at_builtin; refine wpList_appendB rfl _ _ rfl W3.heap.size v5 _ rfl o5 A2 (valL nT nN) l2 c2 rfl hll2.out (G2.below k5) (by rw [List.length_append, hll1.out, hll2.out]; simp; omega) k5.size W3 k5 ?_; intro v6 w6 o6 k6))
  go_ret
  rw [List.append_assoc] at o6
  exact ⟨v6, rfl, o6.base hW3.size, below_more hW3 k6 (Nat.le_refl _)⟩
end Go.Proofs.YtdmkkfpbgpijjaaGreat
