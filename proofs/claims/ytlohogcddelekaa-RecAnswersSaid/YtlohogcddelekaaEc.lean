/- A record's bytes as plain mathematics: how many bytes a number has; math/bits.Len64 in bytes. -/
import Derived.Test.YtlohogcddelekaaVh
import Derived.Test.YtlohogcddelekaaEb
import Derived.Lib.Tables
namespace Go.Proofs.Ytlohogcddelekaa
open Go.RowKit Go.Deep

/-- How many bytes a word has, one at least. -/
def nb (u : Nat) : Nat := if u < 256 then 1 else if u < 65536 then 2 else if u < 16777216 then 3 else if u < 4294967296 then 4 else if u < 1099511627776 then 5 else if u < 281474976710656 then 6 else if u < 72057594037927936 then 7 else 8
theorem nb_bd (u : Nat) : 1 ≤ nb u ∧ nb u ≤ 8 := by
  unfold nb; repeat (first | split | omega)
theorem nb_fit (u : Nat) (h : u < 18446744073709551616) : u / 2 ^ (8 * nb u) = 0 := by
  unfold nb
  repeat (first | split | (apply Nat.div_eq_of_lt; simp; omega))
theorem len8_bd : ∀ x : Nat, x < 256 → 0 ≤ Lib.len8 x ∧ Lib.len8 x ≤ 8 := by decide +kernel
theorem len8_pos : ∀ x : Nat, x < 256 → 1 ≤ x → 1 ≤ Lib.len8 x := by decide +kernel
def LenPost (u : Nat) (w : World) (e : Ending) (w' : World) : Prop := ∃ L : Int, e = .returned (.int .i64 L) ∧ 0 ≤ L ∧ L ≤ 64 ∧ max 1 ((L + 7) / 8) = ((nb u : Nat) : Int) ∧ w = w'
theorem len_post (u j x : Nat) (y L : Int) (hx : x < 256) (hp : 0 < j → 1 ≤ x) (hj : j ≤ 7) (hn : nb u = j + 1) (hy : y = (x : Int)) (hL : L = 8 * (j : Int) + Lib.len8 y) (w : World) : LenPost u w (.returned (.int .i64 L)) w := by
  subst hy
  have hb := len8_bd x hx
  refine ⟨L, rfl, by omega, by omega, ?_, rfl⟩
  rw [hn]
  rcases Nat.eq_zero_or_pos j with h0 | h0
  · subst h0
    omega
  · have := len8_pos x hx (hp h0)
    omega
theorem wrap_len (x : Nat) (hx : x < 256) (k : Int) (h0 : 0 ≤ k) (h1 : k ≤ 56) : wrap64 (Lib.len8 x) = Lib.len8 x ∧ wrap64 (k + Lib.len8 x) = k + Lib.len8 x := by
  have hb := len8_bd x hx
  unfold wrap64
  constructor <;> omega
set_option maxRecDepth 100000 in
set_option maxHeartbeats 1000000 in
theorem len64_0 (u : Nat) (h1 : 0 ≤ u) (h2 : u < 256) (w : World) : Calls Try.prog 52 #[.int .u64 u] w (LenPost u w) := by
  have hn : nb u = 0 + 1 := by unfold nb; rw [if_pos (by omega)]
  have da : decide ((4294967296 : Int) ≤ (u : Int)) = false := by simp; omega
  have db : decide ((65536 : Int) ≤ (u : Int)) = false := by simp; omega
  have dc : decide ((256 : Int) ≤ (u : Int)) = false := by simp; omega
  have hm : (u : Int) % 256 = (u : Int) := by omega
  have HP := Lib.hid (fun L hL => len_post u 0 u (u : Int) L (by omega) (by omega) (by omega) hn rfl hL w)
  have hle : (u : Int) ≤ 255 := by omega
  have hw := wrap_len u (by omega) 0 (by omega) (by omega)
  obtain ⟨hw1, hw2⟩ := hw
  clear hn h1 h2 
  go_enter Try.func52, Try.ntmps52
  go_wp2
  go_ret
  exact HP.out _ (by rw [hw1]; omega)
set_option maxRecDepth 100000 in
set_option maxHeartbeats 1000000 in
theorem len64_1 (u : Nat) (h1 : 256 ≤ u) (h2 : u < 65536) (w : World) : Calls Try.prog 52 #[.int .u64 u] w (LenPost u w) := by
  have hn : nb u = 1 + 1 := by unfold nb; rw [if_neg (by omega)]; rw [if_pos (by omega)]
  have da : decide ((4294967296 : Int) ≤ (u : Int)) = false := by simp; omega
  have db : decide ((65536 : Int) ≤ (u : Int)) = false := by simp; omega
  have dc : decide ((256 : Int) ≤ (u : Int)) = true := by simp; omega
  obtain ⟨c, ec⟩ : ∃ c : Nat, c = u / 256 := ⟨_, rfl⟩
  have qc : (u : Int) / 256 = (c : Int) := by rw [ec]; simp
  have hm : (c : Int) % 256 = (c : Int) := by omega
  have HP := Lib.hid (fun L hL => len_post u 1 c (c : Int) L (by omega) (by omega) (by omega) hn rfl hL w)
  have hle : (c : Int) ≤ 255 := by omega
  have hw := wrap_len c (by omega) 8 (by omega) (by omega)
  obtain ⟨hw1, hw2⟩ := hw
  clear hn h1 h2 ec
  go_enter Try.func52, Try.ntmps52
  go_wp2
  go_ret
  exact HP.out _ (by rw [hw2]; omega)
set_option maxRecDepth 100000 in
set_option maxHeartbeats 1000000 in
theorem len64_2 (u : Nat) (h1 : 65536 ≤ u) (h2 : u < 16777216) (w : World) : Calls Try.prog 52 #[.int .u64 u] w (LenPost u w) := by
  have hn : nb u = 2 + 1 := by unfold nb; rw [if_neg (by omega)]; rw [if_neg (by omega)]; rw [if_pos (by omega)]
  have da : decide ((4294967296 : Int) ≤ (u : Int)) = false := by simp; omega
  have db : decide ((65536 : Int) ≤ (u : Int)) = true := by simp; omega
  obtain ⟨b, eb⟩ : ∃ b : Nat, b = u / 65536 := ⟨_, rfl⟩
  have qb : (u : Int) / 65536 = (b : Int) := by rw [eb]; simp
  have dc : decide ((256 : Int) ≤ (b : Int)) = false := by simp; omega
  have hm : (b : Int) % 256 = (b : Int) := by omega
  have HP := Lib.hid (fun L hL => len_post u 2 b (b : Int) L (by omega) (by omega) (by omega) hn rfl hL w)
  have hle : (b : Int) ≤ 255 := by omega
  have hw := wrap_len b (by omega) 16 (by omega) (by omega)
  obtain ⟨hw1, hw2⟩ := hw
  clear hn h1 h2 eb
  go_enter Try.func52, Try.ntmps52
  go_wp2
  go_ret
  exact HP.out _ (by rw [hw2]; omega)
set_option maxRecDepth 100000 in
set_option maxHeartbeats 1000000 in
theorem len64_3 (u : Nat) (h1 : 16777216 ≤ u) (h2 : u < 4294967296) (w : World) : Calls Try.prog 52 #[.int .u64 u] w (LenPost u w) := by
  have hn : nb u = 3 + 1 := by unfold nb; rw [if_neg (by omega)]; rw [if_neg (by omega)]; rw [if_neg (by omega)]; rw [if_pos (by omega)]
  have da : decide ((4294967296 : Int) ≤ (u : Int)) = false := by simp; omega
  have db : decide ((65536 : Int) ≤ (u : Int)) = true := by simp; omega
  obtain ⟨b, eb⟩ : ∃ b : Nat, b = u / 65536 := ⟨_, rfl⟩
  have qb : (u : Int) / 65536 = (b : Int) := by rw [eb]; simp
  have dc : decide ((256 : Int) ≤ (b : Int)) = true := by simp; omega
  obtain ⟨c, ec⟩ : ∃ c : Nat, c = b / 256 := ⟨_, rfl⟩
  have qc : (b : Int) / 256 = (c : Int) := by rw [ec]; simp
  have hm : (c : Int) % 256 = (c : Int) := by omega
  have HP := Lib.hid (fun L hL => len_post u 3 c (c : Int) L (by omega) (by omega) (by omega) hn rfl hL w)
  have hle : (c : Int) ≤ 255 := by omega
  have hw := wrap_len c (by omega) 24 (by omega) (by omega)
  obtain ⟨hw1, hw2⟩ := hw
  clear hn h1 h2 eb ec
  go_enter Try.func52, Try.ntmps52
  go_wp2
  go_ret
  exact HP.out _ (by rw [hw2]; omega)
set_option maxRecDepth 100000 in
set_option maxHeartbeats 1000000 in
theorem len64_4 (u : Nat) (h1 : 4294967296 ≤ u) (h2 : u < 1099511627776) (w : World) : Calls Try.prog 52 #[.int .u64 u] w (LenPost u w) := by
  have hn : nb u = 4 + 1 := by unfold nb; rw [if_neg (by omega)]; rw [if_neg (by omega)]; rw [if_neg (by omega)]; rw [if_neg (by omega)]; rw [if_pos (by omega)]
  have da : decide ((4294967296 : Int) ≤ (u : Int)) = true := by simp; omega
  obtain ⟨a, ea⟩ : ∃ a : Nat, a = u / 4294967296 := ⟨_, rfl⟩
  have qa : (u : Int) / 4294967296 = (a : Int) := by rw [ea]; simp
  have db : decide ((65536 : Int) ≤ (a : Int)) = false := by simp; omega
  have dc : decide ((256 : Int) ≤ (a : Int)) = false := by simp; omega
  have hm : (a : Int) % 256 = (a : Int) := by omega
  have HP := Lib.hid (fun L hL => len_post u 4 a (a : Int) L (by omega) (by omega) (by omega) hn rfl hL w)
  have hle : (a : Int) ≤ 255 := by omega
  have hw := wrap_len a (by omega) 32 (by omega) (by omega)
  obtain ⟨hw1, hw2⟩ := hw
  clear hn h1 h2 ea
  go_enter Try.func52, Try.ntmps52
  go_wp2
  go_ret
  exact HP.out _ (by rw [hw2]; omega)
set_option maxRecDepth 100000 in
set_option maxHeartbeats 1000000 in
theorem len64_5 (u : Nat) (h1 : 1099511627776 ≤ u) (h2 : u < 281474976710656) (w : World) : Calls Try.prog 52 #[.int .u64 u] w (LenPost u w) := by
  have hn : nb u = 5 + 1 := by unfold nb; rw [if_neg (by omega)]; rw [if_neg (by omega)]; rw [if_neg (by omega)]; rw [if_neg (by omega)]; rw [if_neg (by omega)]; rw [if_pos (by omega)]
  have da : decide ((4294967296 : Int) ≤ (u : Int)) = true := by simp; omega
  obtain ⟨a, ea⟩ : ∃ a : Nat, a = u / 4294967296 := ⟨_, rfl⟩
  have qa : (u : Int) / 4294967296 = (a : Int) := by rw [ea]; simp
  have db : decide ((65536 : Int) ≤ (a : Int)) = false := by simp; omega
  have dc : decide ((256 : Int) ≤ (a : Int)) = true := by simp; omega
  obtain ⟨c, ec⟩ : ∃ c : Nat, c = a / 256 := ⟨_, rfl⟩
  have qc : (a : Int) / 256 = (c : Int) := by rw [ec]; simp
  have hm : (c : Int) % 256 = (c : Int) := by omega
  have HP := Lib.hid (fun L hL => len_post u 5 c (c : Int) L (by omega) (by omega) (by omega) hn rfl hL w)
  have hle : (c : Int) ≤ 255 := by omega
  have hw := wrap_len c (by omega) 40 (by omega) (by omega)
  obtain ⟨hw1, hw2⟩ := hw
  clear hn h1 h2 ea ec
  go_enter Try.func52, Try.ntmps52
  go_wp2
  go_ret
  exact HP.out _ (by rw [hw2]; omega)
set_option maxRecDepth 100000 in
set_option maxHeartbeats 1000000 in
theorem len64_6 (u : Nat) (h1 : 281474976710656 ≤ u) (h2 : u < 72057594037927936) (w : World) : Calls Try.prog 52 #[.int .u64 u] w (LenPost u w) := by
  have hn : nb u = 6 + 1 := by unfold nb; rw [if_neg (by omega)]; rw [if_neg (by omega)]; rw [if_neg (by omega)]; rw [if_neg (by omega)]; rw [if_neg (by omega)]; rw [if_neg (by omega)]; rw [if_pos (by omega)]
  have da : decide ((4294967296 : Int) ≤ (u : Int)) = true := by simp; omega
  obtain ⟨a, ea⟩ : ∃ a : Nat, a = u / 4294967296 := ⟨_, rfl⟩
  have qa : (u : Int) / 4294967296 = (a : Int) := by rw [ea]; simp
  have db : decide ((65536 : Int) ≤ (a : Int)) = true := by simp; omega
  obtain ⟨b, eb⟩ : ∃ b : Nat, b = a / 65536 := ⟨_, rfl⟩
  have qb : (a : Int) / 65536 = (b : Int) := by rw [eb]; simp
  have dc : decide ((256 : Int) ≤ (b : Int)) = false := by simp; omega
  have hm : (b : Int) % 256 = (b : Int) := by omega
  have HP := Lib.hid (fun L hL => len_post u 6 b (b : Int) L (by omega) (by omega) (by omega) hn rfl hL w)
  have hle : (b : Int) ≤ 255 := by omega
  have hw := wrap_len b (by omega) 48 (by omega) (by omega)
  obtain ⟨hw1, hw2⟩ := hw
  clear hn h1 h2 ea eb
  go_enter Try.func52, Try.ntmps52
  go_wp2
  go_ret
  exact HP.out _ (by rw [hw2]; omega)
set_option maxRecDepth 100000 in
set_option maxHeartbeats 1000000 in
theorem len64_7 (u : Nat) (h1 : 72057594037927936 ≤ u) (h2 : u < 18446744073709551616) (w : World) : Calls Try.prog 52 #[.int .u64 u] w (LenPost u w) := by
  have hn : nb u = 7 + 1 := by unfold nb; rw [if_neg (by omega)]; rw [if_neg (by omega)]; rw [if_neg (by omega)]; rw [if_neg (by omega)]; rw [if_neg (by omega)]; rw [if_neg (by omega)]; rw [if_neg (by omega)]
  have da : decide ((4294967296 : Int) ≤ (u : Int)) = true := by simp; omega
  obtain ⟨a, ea⟩ : ∃ a : Nat, a = u / 4294967296 := ⟨_, rfl⟩
  have qa : (u : Int) / 4294967296 = (a : Int) := by rw [ea]; simp
  have db : decide ((65536 : Int) ≤ (a : Int)) = true := by simp; omega
  obtain ⟨b, eb⟩ : ∃ b : Nat, b = a / 65536 := ⟨_, rfl⟩
  have qb : (a : Int) / 65536 = (b : Int) := by rw [eb]; simp
  have dc : decide ((256 : Int) ≤ (b : Int)) = true := by simp; omega
  obtain ⟨c, ec⟩ : ∃ c : Nat, c = b / 256 := ⟨_, rfl⟩
  have qc : (b : Int) / 256 = (c : Int) := by rw [ec]; simp
  have hm : (c : Int) % 256 = (c : Int) := by omega
  have HP := Lib.hid (fun L hL => len_post u 7 c (c : Int) L (by omega) (by omega) (by omega) hn rfl hL w)
  have hle : (c : Int) ≤ 255 := by omega
  have hw := wrap_len c (by omega) 56 (by omega) (by omega)
  obtain ⟨hw1, hw2⟩ := hw
  clear hn h1 h2 ea eb ec
  go_enter Try.func52, Try.ntmps52
  go_wp2
  go_ret
  exact HP.out _ (by rw [hw2]; omega)
theorem len64_any (u : Nat) (h : u < 18446744073709551616) (w : World) : Calls Try.prog 52 #[.int .u64 u] w (LenPost u w) := by
  by_cases c0 : u < 256
  · exact len64_0 u (by omega) c0 w
  by_cases c1 : u < 65536
  · exact len64_1 u (by omega) c1 w
  by_cases c2 : u < 16777216
  · exact len64_2 u (by omega) c2 w
  by_cases c3 : u < 4294967296
  · exact len64_3 u (by omega) c3 w
  by_cases c4 : u < 1099511627776
  · exact len64_4 u (by omega) c4 w
  by_cases c5 : u < 281474976710656
  · exact len64_5 u (by omega) c5 w
  by_cases c6 : u < 72057594037927936
  · exact len64_6 u (by omega) c6 w
  exact len64_7 u (by omega) (by omega) w
end Go.Proofs.Ytlohogcddelekaa
