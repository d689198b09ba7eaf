/- The walk of the statement WordBytes: it returns true, for every input. -/
import Derived.Test.YtafdaeenjjokiaaDoorLb
namespace Go.Proofs.YtafdaeenjjokiaaDoor
open Go.RowKit Go.Deep

/-- A word's lowest n bytes. -/
def bytesL (u n : Nat) : List Int := (List.range n).map (fun j => ((byteAt u j : Nat) : Int))
theorem bytesL_length (u n : Nat) : (bytesL u n).length = n := by simp [bytesL]
theorem byteAt_lt (u j : Nat) : byteAt u j < 256 := by unfold byteAt; omega
theorem bytesL_bytes (u n : Nat) : isBytes (bytesL u n) := by
  intro z hz
  simp only [bytesL, List.mem_map] at hz
  obtain ⟨j, _, rfl⟩ := hz
  have := byteAt_lt u j
  omega
theorem bytesL_at (u n j : Nat) (h : j < n) : (bytesL u n)[j]?.getD 0 = ((byteAt u j : Nat) : Int) := by simp [bytesL, h]
theorem byteAt_succ (u j : Nat) : byteAt u (j + 1) = byteAt (u / 256) j := by
  unfold byteAt
  rw [Nat.div_div_eq_div_mul, show (2 : Nat) ^ (8 * (j + 1)) = 256 * 2 ^ (8 * j) by rw [show 8 * (j + 1) = 8 * j + 8 by omega, Nat.pow_add, Nat.mul_comm]]
theorem from_bytes (n : Nat) : ∀ u, u / 2 ^ (8 * n) = 0 → fromN (bytesL u n) = u := by
  induction n with
  | zero => intro u h; simp at h; subst h; rfl
  | succ n ih =>
    intro u h
    have e : bytesL u (n + 1) = ((byteAt u 0 : Nat) : Int) :: bytesL (u / 256) n := by
      unfold bytesL
      rw [List.range_succ_eq_map, List.map_cons, List.map_map]
      congr 1
      apply List.map_congr_left
      intro j _
      simp [byteAt_succ]
    have h2 : u / 256 / 2 ^ (8 * n) = 0 := by
      rw [Nat.div_div_eq_div_mul, show 256 * 2 ^ (8 * n) = (2 : Nat) ^ (8 * (n + 1)) by rw [show 8 * (n + 1) = 8 * n + 8 by omega, Nat.pow_add, Nat.mul_comm]]
      exact h
    rw [e, fromN_cons, ih _ h2]
    have : byteAt u 0 = u % 256 := by simp [byteAt]
    omega
theorem bytes_take (u n : Nat) : (bytesL u (n + 1)).take n = bytesL u n := by
  unfold bytesL
  rw [← List.map_take, List.take_range, Nat.min_eq_left (by omega)]

/-- What Bytes answers where there is enough room. -/
theorem bytes_list (u : Nat) (hu : u < 18446744073709551616) (n : Nat) (h : n ≤ 8) (hz : u / 2 ^ (8 * n) = 0) (w : World) :
    Calls Tryd.prog 35 #[.int .u64 u, .int .i64 n] w fun e w' => e = .returned (.slice (some ⟨w.heap.size, 0, none⟩) n n) ∧ Ints .u8 w'.heap.size w' (some ⟨w.heap.size, 0, none⟩) (bytesL u n) ∧ (∀ j, j < n → w'.cell? ⟨w.heap.size, j, none⟩ = some (.int .u8 (byteAt u j))) ∧ w.heap.size < w'.heap.size ∧ Below w.heap.size w w' := by
  refine (bytes_yes u hu n h hz w).mono ?_
  rintro e w' ⟨rfl, hr, hb⟩
  exact ⟨rfl, ints_row hr _ (bytesL_length u n) (fun j hj => by rw [bytesL_at u n j hj]), fun j hj => hr.cell hj, hr.lt, hb⟩

theorem Ints.take {k : IntKind} {B : Nat} {w : World} {A : Option Addr} {zs : List Int} (h : Ints k B w A zs) (n : Nat) : Ints k B w A (zs.take n) := fun h0 => by
  have h1 : 0 < zs.length := by rw [List.length_take] at h0; omega
  obtain ⟨b, off, e, hlt, hc⟩ := h h1
  refine ⟨b, off, e, hlt, fun j hj => ?_⟩
  rw [List.length_take] at hj
  rw [hc j (by omega), List.getElem?_take_of_lt (by omega)]

theorem from_back (u n : Nat) (h8 : n ≤ 8) (hz : u / 2 ^ (8 * n) = 0) (W : World) (A : Option Addr) (c : Nat) (h : Ints .u8 W.heap.size W A (bytesL u n)) :
    Calls Tryd.prog 31 #[.slice A n c] W fun e w' => e = .returned (.tuple #[.int .u64 u, .bool true]) ∧ Below W.heap.size W w' := by
  have := from_yes A c (bytesL u n) (bytesL_bytes u n) (by rw [bytesL_length]; exact h8) W h
  rwa [bytesL_length, from_bytes n u hz] at this

theorem sameB_gives (u n : Nat) (h8 : n ≤ 8) (W : World) (A A' : Option Addr) (c c' : Nat) (h : Ints .u8 W.heap.size W A (bytesL u n)) (h' : Ints .u8 W.heap.size W A' (bytesL u n)) :
    Calls Tryd.prog 34 #[.slice A n c, .slice A' n c'] W fun e w' => e = .returned (.bool true) ∧ Dr W w' := by
  have := sameBytes_any A A' (bytesL u n) (bytesL u n) c c' W.heap.size W h h' (by rw [bytesL_length]; omega) (by rw [bytesL_length]; omega)
  rwa [bytesL_length, beq_self_eq_true] at this

set_option maxHeartbeats 1000000 in
theorem wordBytes_out (u : Nat) (n : Int) (hu : u < 18446744073709551616) (h : n < 0 ∨ (0 ≤ n ∧ 8 < n)) (w : World) (hT : Tab w) :
    Calls Tryd.prog 9 #[.int .u64 u, .int .i64 n] w fun e w' => e = .returned (.bool true) ∧ Below w.heap.size w w' := by
  have hA := Lib.hid (alive_any w hT)
  have c1 : Gives 35 #[.int .u64 u, .int .i64 n] (.slice none 0 0) := fun W => bytes_no u hu n (by omega) W
  clear hT
  rcases h with h | ⟨h0, h⟩
  all_goals
    go_enter Tryd.func9, Tryd.ntmps9
    go_wp2_with fail
    refine hA.out.mono ?_
    clear hA
    rintro e w1 ⟨rfl, hb⟩
    go_wp2_with fail
    refine (c1 w1).mono ?_
    rintro e w' ⟨rfl, rfl⟩
    go_wp2
    go_ret
    exact ⟨rfl, hb⟩

set_option maxHeartbeats 1000000 in
theorem wordBytes_over (u n : Nat) (hu : u < 18446744073709551616) (hn : n < 8) (hz : u / 2 ^ (8 * n) ≠ 0) (w : World) (hT : Tab w) :
    Calls Tryd.prog 9 #[.int .u64 u, .int .i64 n] w fun e w' => e = .returned (.bool true) ∧ Below w.heap.size w w' := by
  have hA := Lib.hid (alive_any w hT)
  have c1 : Gives 35 #[.int .u64 u, .int .i64 n] (.slice none 0 0) := fun W => bytes_no u hu n (.inr (.inr ⟨by omega, by omega, by simpa using hz⟩)) W
  have hb := shr_ne u n hz
  clear hT hz
  go_enter Tryd.func9, Tryd.ntmps9
  go_wp2_with fail
  refine hA.out.mono ?_
  clear hA
  rintro e w1 ⟨rfl, hb⟩
  go_wp2_with fail
  refine (c1 w1).mono ?_
  rintro e w' ⟨rfl, rfl⟩
  go_wp2
  go_ret
  exact ⟨rfl, hb⟩

set_option maxHeartbeats 1000000 in
theorem wordBytes_8 (u : Nat) (hu : u < 18446744073709551616) (w : World) (hT : Tab w) :
    Calls Tryd.prog 9 #[.int .u64 u, .int .i64 8] w fun e w' => e = .returned (.bool true) ∧ Below w.heap.size w w' := by
  have hA := Lib.hid (alive_any w hT)
  have hz : u / 2 ^ (8 * 8) = 0 := by omega
  have c1 := bytes_list u hu 8 (by omega) hz
  have c3 : Gives 35 #[.int .u64 u, .int .i64 9] (.slice none 0 0) := fun W => bytes_no u hu 9 (by omega) W
  have c2 := fun W A h => from_back u 8 (by omega) hz W A 8 h
  have huu : ((u : Int) != (u : Int)) = false := by simp
  clear hT hz
  go_enter Tryd.func9, Tryd.ntmps9
  go_wp2_with fail
  refine hA.out.mono ?_
  clear hA
  rintro e w1 ⟨rfl, hb⟩
  go_wp2_with fail
  refine (c1 w1).mono ?_
  rintro e w2 ⟨rfl, hi, _, _, hb2⟩
  have B2 : Below w.heap.size w w2 := hb.trans (hb2.mono hb.size)
  go_wp2_with fail
  refine (c2 w2 _ hi).mono ?_
  rintro e w3 ⟨rfl, hb3⟩
  have B3 : Below w.heap.size w w3 := B2.trans (hb3.mono B2.size)
  go_wp2_with fail
  refine (c3 w3).mono ?_
  rintro e w' ⟨rfl, rfl⟩
  go_wp2
  go_ret
  exact ⟨rfl, B3⟩

set_option maxHeartbeats 1000000 in
theorem wordBytes_in (u n : Nat) (hu : u < 18446744073709551616) (hn : n < 8) (hz : u / 2 ^ (8 * n) = 0) (w : World) (hT : Tab w) :
    Calls Tryd.prog 9 #[.int .u64 u, .int .i64 n] w fun e w' => e = .returned (.bool true) ∧ Below w.heap.size w w' := by
  have hA := Lib.hid (alive_any w hT)
  have hz1 : u / 2 ^ (8 * (n + 1)) = 0 := by
    rw [show 8 * (n + 1) = 8 * n + 8 by omega, Nat.pow_add, ← Nat.div_div_eq_div_mul, hz]
  have hzero : byteAt u n = 0 := by unfold byteAt; rw [hz]
  have c1 := bytes_list u hu n (by omega) hz
  have c2 := fun W A h => from_back u n (by omega) hz W A n h
  have c3 := bytes_list u hu (n + 1) (by omega) hz1
  have c4 := fun W A A' h h' => sameB_gives u n (by omega) W A A' (n + 1) n h h'
  rw [show ((n + 1 : Nat) : Int) = (n : Int) + 1 by omega] at c3
  have hsh := shr_eq u n hz
  have huu : ((u : Int) != (u : Int)) = false := by simp
  have hnn : ((n : Int) != (n : Int)) = false := by simp
  have hn8 : ((n : Int) == 8) = false := by simp; omega
  have hlen : ((n : Int) + 1 == (n : Int) + 1) = true := by simp
  clear hT hz hz1
  have HZ := Lib.hid hzero
  clear hzero
  go_enter Tryd.func9, Tryd.ntmps9
  go_wp2_with fail
  refine hA.out.mono ?_
  clear hA
  rintro e w1 ⟨rfl, hb⟩
  go_wp2_with fail
  refine (c1 w1).mono ?_
  rintro e w2 ⟨rfl, hi, _, hlt2, hb2⟩
  have B2 : Below w.heap.size w w2 := hb.trans (hb2.mono hb.size)
  clear hb2
  go_wp2_with fail
  refine (c2 w2 _ hi).mono ?_
  rintro e w3 ⟨rfl, hb3⟩
  have B3 : Below w.heap.size w w3 := B2.trans (hb3.mono B2.size)
  have hi3 := (hi.below hb3 (Nat.le_refl _)).more hb3.size
  clear hb3 hi B2
  go_wp2_with fail
  refine (c3 w3).mono ?_
  rintro e w4 ⟨rfl, hi4, hc4, hlt4, hb4⟩
  have B4 : Below w.heap.size w w4 := B3.trans (hb4.mono B3.size)
  have hi3' := (hi3.below hb4 (Nat.le_refl _)).more hb4.size
  have hcn := hc4 n (by omega)
  rw [HZ.out] at hcn
  have hi4' := hi4.take n
  rw [bytes_take] at hi4'
  clear hb4 hi3 hi4 hc4 B3
  go_wp2_with fail
  refine (c4 w4 _ _ hi4' hi3').mono ?_
  rintro e w5 ⟨rfl, m, rfl⟩
  have B5 := below_drewN B4 m
  clear B4 hi4' hi3'
  go_wp2
  go_ret
  exact ⟨rfl, B5⟩

theorem wordBytes_any (u : Nat) (n : Int) (hu : u < 18446744073709551616) (w : World) (hT : Tab w) :
    Calls Tryd.prog 9 #[.int .u64 u, .int .i64 n] w fun e w' => e = .returned (.bool true) ∧ Below w.heap.size w w' := by
  by_cases h : 0 ≤ n ∧ n ≤ 8
  · obtain ⟨m, rfl⟩ : ∃ m : Nat, n = m := ⟨n.toNat, by omega⟩
    by_cases h8 : m = 8
    · subst h8; exact wordBytes_8 u hu w hT
    · by_cases hz : u / 2 ^ (8 * m) = 0
      · exact wordBytes_in u m hu (by omega) hz w hT
      · exact wordBytes_over u m hu (by omega) hz w hT
  · exact wordBytes_out u n hu (by omega) w hT
end Go.Proofs.YtafdaeenjjokiaaDoor
