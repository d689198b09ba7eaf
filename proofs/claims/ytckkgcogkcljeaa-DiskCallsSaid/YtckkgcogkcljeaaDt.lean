/- DiskCalls: the ways out. -/
import Derived.Test.YtckkgcogkcljeaaDs
namespace Go.Proofs.Ytckkgcogkcljeaa
open Go.RowKit Go.Deep Go.Maps
set_option maxRecDepth 100000 in
set_option maxHeartbeats 4000000 in
theorem calls_any (n : Int) (A : Option Addr) (cs : List CallD) (l c : Nat) (w : World) (h : CallsAt w.heap.size w A cs) (hl : cs.length = l) (hm : l ≤ maxLen) :
    Calls Try.prog 3 #[.int .i64 n, .slice A l c] w fun e w' => e = .returned (.bool true) ∧ Below w.heap.size w w' := by
  have HL := Lib.hid hl
  clear hl
  cases hgr : greatB cs with
  | true =>
    have HG := Lib.hid hgr
    clear hgr
    go_enter Try.func3, Try.ntmps3
    go_wp2_with fail
    refine (alive_any w).mono ?_
    rintro e w1 ⟨rfl, b1⟩
    go_wp2_with fail
    refine (great_any A cs l c w.heap.size true w1 (h.below b1) HL.out hm HG.out).mono ?_
    rintro e w1' ⟨rfl, rfl⟩
    go_wp2
    go_ret
    exact ⟨rfl, b1⟩
  | false =>
    have HG := Lib.hid hgr
    clear hgr
    by_cases h1 : n < 1
    · have hno : n < 1 ∨ 512 < n := .inl h1
      have d2 : decide (40 < n) = false := by simp; omega
      go_enter Try.func3, Try.ntmps3
      go_wp2_with fail
      refine (alive_any w).mono ?_
      rintro e w1 ⟨rfl, b1⟩
      go_wp2_with fail
      refine (great_any A cs l c w.heap.size false w1 (h.below b1) HL.out hm HG.out).mono ?_
      rintro e w1' ⟨rfl, rfl⟩
      go_wp2_with fail
      refine (new_no n w1 hno).mono ?_
      rintro e w1' ⟨rfl, rfl⟩
      go_wp2_with fail
      refine (rnew_no n w1 hno).mono ?_
      rintro e w1' ⟨rfl, rfl⟩
      go_wp2
      go_loop [9] (fun k => k = .int .i64 0) (fun _ => 1)
      case atStart => rfl
      case round =>
        obtain rfl := hrel
        by_cases hl0 : 0 < l
        · have hl1 : (0 : Int) < (l : Int) := by omega
          go_wp2
          go_ret
          exact ⟨rfl, b1⟩
        · obtain rfl : l = 0 := by omega
          go_wp2
          go_ret
          exact ⟨rfl, b1⟩
    by_cases h3 : 512 < n
    · have hno : n < 1 ∨ 512 < n := .inr h3
      have d2 : decide (40 < n) = true := by simp; omega
      have d3 : decide (n ≤ 512) = false := by simp; omega
      go_enter Try.func3, Try.ntmps3
      go_wp2_with fail
      refine (alive_any w).mono ?_
      rintro e w1 ⟨rfl, b1⟩
      go_wp2_with fail
      refine (great_any A cs l c w.heap.size false w1 (h.below b1) HL.out hm HG.out).mono ?_
      rintro e w1' ⟨rfl, rfl⟩
      go_wp2_with fail
      refine (new_no n w1 hno).mono ?_
      rintro e w1' ⟨rfl, rfl⟩
      go_wp2_with fail
      refine (rnew_no n w1 hno).mono ?_
      rintro e w1' ⟨rfl, rfl⟩
      go_wp2
      go_loop [9] (fun k => k = .int .i64 0) (fun _ => 1)
      case atStart => rfl
      case round =>
        obtain rfl := hrel
        by_cases hl0 : 0 < l
        · have hl1 : (0 : Int) < (l : Int) := by omega
          go_wp2
          go_ret
          exact ⟨rfl, b1⟩
        · obtain rfl : l = 0 := by omega
          go_wp2
          go_ret
          exact ⟨rfl, b1⟩
    by_cases h2 : 40 < n
    · have d2 : decide (40 < n) = true := by simpa using h2
      have d3 : decide (n ≤ 512) = true := by simp; omega
      go_enter Try.func3, Try.ntmps3
      go_wp2_with fail
      refine (alive_any w).mono ?_
      rintro e w1 ⟨rfl, b1⟩
      go_wp2_with fail
      refine (great_any A cs l c w.heap.size false w1 (h.below b1) HL.out hm HG.out).mono ?_
      rintro e w1' ⟨rfl, rfl⟩
      go_wp2
      go_ret
      exact ⟨rfl, b1⟩
    obtain ⟨k, rfl⟩ := Int.eq_ofNat_of_zero_le (show 0 ≤ n by omega)
    exact calls_body k A cs l c w (by omega) (by omega) h HL.out hm HG.out
end Go.Proofs.Ytckkgcogkcljeaa
