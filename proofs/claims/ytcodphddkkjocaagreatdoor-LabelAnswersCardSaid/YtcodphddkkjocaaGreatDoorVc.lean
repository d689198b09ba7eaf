/- Layer 1 for the stages above it: the walks of the calls that make lists: a word's bytes, a word's numbers. -/
import Derived.Test.YtcodphddkkjocaaGreatDoorVb
import Derived.Deep.OwnRows
namespace Go.Proofs.YtcodphddkkjocaaGreatDoor
open Go.RowKit Go.Deep

set_option maxRecDepth 100000 in
theorem info_int : (Tryz.prog.info? 3).map (fun i => (i.zero, i.size, i.bytes)) = some (some (.int .i64 0), 1, 8) := by kernel_rfl

def byteAt (u j : Nat) : Nat := u / 2 ^ (8 * j) % 256

theorem shr_ne (u m : Nat) (h : u / 2 ^ (8 * m) ≠ 0) : ((u : Int) / 2 ^ (8 * m) != 0) = true := by
  have e : ((u : Int) / 2 ^ (8 * m)) = ((u / 2 ^ (8 * m) : Nat) : Int) := by simp
  rw [e]; simp only [bne_iff_ne]; omega
theorem shr_eq (u m : Nat) (h : u / 2 ^ (8 * m) = 0) : ((u : Int) / 2 ^ (8 * m) != 0) = false := by
  have e : ((u : Int) / 2 ^ (8 * m)) = ((u / 2 ^ (8 * m) : Nat) : Int) := by simp
  rw [e, h]; rfl
theorem byte_walk (u k : Nat) : IntKind.u8.wrap ((u : Int) / 2 ^ (8 * k)) = ((byteAt u k : Nat) : Int) := by
  have e : ((u : Int) / 2 ^ (8 * k)) = ((u / 2 ^ (8 * k) : Nat) : Int) := by simp
  rw [e]; unfold byteAt
  simp [IntKind.wrap, IntKind.signed, IntKind.bits]

set_option maxRecDepth 100000 in
set_option maxHeartbeats 400000 in
theorem bytes_no (u : Nat) (_hu : u < 18446744073709551616) (n : Int) (h : n < 0 ∨ 8 < n ∨ (0 ≤ n ∧ n ≤ 8 ∧ u / 2 ^ (8 * n.toNat) ≠ 0)) (w : World) :
    Calls Tryz.prog 39 #[.int .u64 u, .int .i64 n] w fun e w' => e = .returned (.slice none 0 0) ∧ w = w' := by
  rcases h with h | h | ⟨h0, h8, h⟩
  · go_enter Tryz.func39, Tryz.ntmps39
    go_wp2
    go_ret
    exact ⟨rfl, rfl⟩
  · have h0 : 0 ≤ n := by omega
    go_enter Tryz.func39, Tryz.ntmps39
    go_wp2
    go_ret
    exact ⟨rfl, rfl⟩
  · obtain ⟨m, rfl⟩ : ∃ m : Nat, n = m := ⟨n.toNat, by omega⟩
    have hb := shr_ne u m h
    clear h
    go_enter Tryz.func39, Tryz.ntmps39
    go_wp2
    go_ret
    exact ⟨rfl, rfl⟩

set_option maxRecDepth 100000 in
set_option maxHeartbeats 400000 in
theorem bytes_yes (u : Nat) (_hu : u < 18446744073709551616) (n : Nat) (h : n ≤ 8) (hz : u / 2 ^ (8 * n) = 0) (w : World) :
    Calls Tryz.prog 39 #[.int .u64 u, .int .i64 n] w fun e w' => e = .returned (.slice (some ⟨w.heap.size, 0, none⟩) n n) ∧ w'.rowIs w.heap.size 5 n (fun j => .int .u8 (byteAt u j)) ∧ Below w.heap.size w w' := by
  have hmk := fun W => run_make_row' (P := Tryz.prog) 25 5 (.int .u8 0) 1 Tryz.underlying25 info_u8 rfl .i64 .i64 n (by omega) (by omega) W
  have hb := shr_eq u n hz
  clear hz
  have hw := byte_walk u
  go_enter Tryz.func39, Tryz.ntmps39
  go_wp2
  go_loopw [24, 6] (fun i _ wr => ∃ k : Nat, k ≤ n ∧ i = .int .i64 k ∧ wr.rowIs w.heap.size 5 n (fun j => if j < k then .int .u8 (byteAt u j) else .int .u8 0) ∧ Below w.heap.size w wr) (fun i _ _ => n - (intOf i).toNat)
  case atStart => exact ⟨0, Nat.zero_le _, rfl, (World.rowIs_made w (.int .u8 0) n 5).congr (fun i _ => by simp), (Below.refl _ _).alloc (Nat.le_refl _) _⟩
  case round =>
    obtain ⟨k, hk, rfl, hrow, hbl⟩ := hrel
    by_cases hlt : k < n
    · have hc := hrow.cell hlt
      have hf := hrow.frozen k
      rw [if_neg (Nat.lt_irrefl k)] at hc
      go_wp2
      go_roundw
      case rel => exact ⟨k + 1, by omega, by go_num, (hrow.set k _).congr (fun i _ => by by_cases e : i = k <;> by_cases e2 : i < k <;> simp [e, e2] <;> omega), hbl.setCell (p := ⟨w.heap.size, k, none⟩) (Nat.le_refl _) _⟩
      case measure => simp [intOf]; omega
    · obtain rfl : k = n := by omega
      go_wp2
      go_ret
      exact ⟨rfl, hrow.congr (fun i hi => by simp [hi]), hbl⟩

/-! ### Unpack -/
/-- How many bits lie below number k. -/
def offN (ws : List Int) (k : Nat) : Nat := (sumI (ws.take k)).toNat
def fieldAt (ws : List Int) (u k : Nat) : Nat := u / 2 ^ offN ws k % 2 ^ (ws[k]?.getD 0).toNat
theorem fieldAt_eq (ws : List Int) (u k : Nat) : fieldAt ws u k = u / 2 ^ offN ws k % 2 ^ (ws[k]?.getD 0).toNat := rfl
def unpackL (ws : List Int) (u : Nat) : List Int := (List.range ws.length).map (fun k => (fieldAt ws u k : Int))

theorem okW_at (ws : List Int) (h : okW ws = true) (k : Nat) (hk : k < ws.length) : 1 ≤ ws[k]?.getD 0 ∧ ws[k]?.getD 0 ≤ 63 := by
  have := ((okW_iff ws).1 h).1 (ws[k]) (by simp)
  simp [hk]; omega
theorem take_nonneg (ws : List Int) (h : okW ws = true) (k : Nat) : 0 ≤ sumI (ws.take k) :=
  sumI_pos _ (fun x hx => ((okW_iff ws).1 h).1 x (List.mem_of_mem_take hx))
theorem offN_succ (ws : List Int) (h : okW ws = true) (k : Nat) (hk : k < ws.length) : offN ws (k + 1) = offN ws k + (ws[k]?.getD 0).toNat := by
  unfold offN
  rw [sum_take ws k hk]
  have := take_nonneg ws h k
  have := okW_at ws h k hk
  omega
theorem offN_le (ws : List Int) (h : okW ws = true) (k : Nat) : offN ws k ≤ 64 := by
  have e := sumI_append (ws.take k) (ws.drop k)
  rw [List.take_append_drop] at e
  have h1 := ((okW_iff ws).1 h).2
  have := sumI_pos (ws.drop k) (fun x hx => ((okW_iff ws).1 h).1 x (List.mem_of_mem_drop hx))
  unfold offN
  omega
theorem rest_succ (ws : List Int) (u : Nat) (h : okW ws = true) (k : Nat) (hk : k < ws.length) : u / 2 ^ offN ws k / 2 ^ (ws[k]?.getD 0).toNat = u / 2 ^ offN ws (k + 1) := by
  rw [offN_succ ws h k hk, Nat.pow_add, Nat.div_div_eq_div_mul]
theorem and_mask (r k : Nat) (hr : r < 18446744073709551616) (hk : k ≤ 63) : bits .and .u64 (r : Int) ((2 ^ k - 1 : Nat) : Int) = ((r % 2 ^ k : Nat) : Int) := by
  have : 2 ^ k ≤ 2 ^ 63 := Nat.pow_le_pow_right (by decide) hk
  have p : 0 < 2 ^ k := Nat.two_pow_pos k
  rw [bits_and_u64_nat _ _ hr (by omega), Nat.and_two_pow_sub_one_eq_mod]
theorem mod63 (r k : Nat) (hk : k ≤ 63) : r % 2 ^ k < 9223372036854775808 := by
  have : 2 ^ k ≤ 2 ^ 63 := Nat.pow_le_pow_right (by decide) hk
  have := Nat.mod_lt r (Nat.two_pow_pos k)
  omega

def UnpackOk (ws : List Int) (u : Nat) (w : World) (e : Ending) (w' : World) : Prop :=
  e = .returned (.tuple #[.slice (some ⟨w.heap.size, 0, none⟩) ws.length ws.length, .bool true]) ∧ w'.rowIs w.heap.size 3 ws.length (fun j => .int .i64 (fieldAt ws u j)) ∧ Below w.heap.size w w'
def UnpackNo (w : World) (e : Ending) (w' : World) : Prop :=
  e = .returned (.tuple #[.slice none 0 0, .bool false]) ∧ Below w.heap.size w w'

end Go.Proofs.YtcodphddkkjocaaGreatDoor
