/- The walk of the statement WordNumbers: it returns true, for every input. -/
import Derived.Test.YtafdaeenjjokiaaDoorLb
import Derived.Test.YtafdaeenjjokiaaDoorRb
namespace Go.Proofs.YtafdaeenjjokiaaDoor
open Go.RowKit

set_option maxHeartbeats 1000000 in
theorem wordNumbers_core (n k : Int) (u : Nat) (j : Int) (f : Bool) (c z a : Int) (t p l : Nat) (w : World) (hT : Tab w)
    (f1 : Gives 12 #[.int .i64 n, .int .i64 k] (.bool f)) (f2 : Gives 13 #[.int .i64 n, .int .i64 k] (.bool f))
    (c1 : Gives 14 #[.int .i64 n, .int .i64 k] (.int .i64 c)) (c2 : Gives 15 #[.int .i64 n, .int .i64 k] (.int .i64 c))
    (z1 : Gives 16 #[.int .i64 n] (.int .u64 z)) (z2 : Gives 17 #[.int .i64 n] (.int .u64 z))
    (a1 : Gives 18 #[.int .u64 u] (.int .i64 a)) (a2 : Gives 19 #[.int .u64 u] (.int .i64 a))
    (t1 : Gives 20 #[.int .u64 u, .int .i64 j] (.int .u64 t)) (t2 : Gives 21 #[.int .u64 u, .int .i64 j] (.int .u64 t))
    (p1 : Gives 22 #[.int .u64 u] (.int .i64 p)) (p2 : Gives 23 #[.int .u64 u] (.int .i64 p))
    (l1 : ∀ W, Tab W → Calls Tryd.prog 24 #[.int .u64 u] W fun e w' => e = .returned (.int .i64 l) ∧ W = w') (l2 : Gives 25 #[.int .u64 u] (.int .i64 l)) :
    Calls Tryd.prog 3 #[.int .i64 n, .int .i64 k, .int .u64 u, .int .i64 j] w fun e w' => e = .returned (.bool true) ∧ Below w.heap.size w w' := by
  have hA := Lib.hid (alive_any w hT)
  have hff : (f == f) = true := by simp
  go_enter Tryd.func3, Tryd.ntmps3
  go_wp2_with fail
  refine hA.out.mono ?_
  clear hA
  rintro e w1 ⟨rfl, hb⟩
  have hT1 := Lib.hid (hT.below hb hT.lt)
  clear hT
  go_wp2_with fail
  refine (f1 w1).mono ?_
  rintro e w' ⟨rfl, rfl⟩
  go_wp2_with fail
  refine (f2 w1).mono ?_
  rintro e w' ⟨rfl, rfl⟩
  go_wp2_with fail
  refine (c1 w1).mono ?_
  rintro e w' ⟨rfl, rfl⟩
  go_wp2_with fail
  refine (c2 w1).mono ?_
  rintro e w' ⟨rfl, rfl⟩
  go_wp2_with fail
  refine (z1 w1).mono ?_
  rintro e w' ⟨rfl, rfl⟩
  go_wp2_with fail
  refine (z2 w1).mono ?_
  rintro e w' ⟨rfl, rfl⟩
  go_wp2_with fail
  refine (a1 w1).mono ?_
  rintro e w' ⟨rfl, rfl⟩
  go_wp2_with fail
  refine (a2 w1).mono ?_
  rintro e w' ⟨rfl, rfl⟩
  go_wp2_with fail
  refine (t1 w1).mono ?_
  rintro e w' ⟨rfl, rfl⟩
  go_wp2_with fail
  refine (t2 w1).mono ?_
  rintro e w' ⟨rfl, rfl⟩
  go_wp2_with fail
  refine (p1 w1).mono ?_
  rintro e w' ⟨rfl, rfl⟩
  go_wp2_with fail
  refine (p2 w1).mono ?_
  rintro e w' ⟨rfl, rfl⟩
  go_wp2_with fail
  refine (l1 w1 hT1.out).mono ?_
  rintro e w' ⟨rfl, rfl⟩
  go_wp2_with fail
  refine (l2 w1).mono ?_
  rintro e w' ⟨rfl, rfl⟩
  go_wp2
  go_ret
  exact ⟨rfl, hb⟩

theorem wordNumbers_any (n k : Int) (u : Nat) (j : Int) (b1 : -9223372036854775808 ≤ n ∧ n ≤ 9223372036854775807) (hu : u < 18446744073709551616) (w : World) (hT : Tab w) :
    Calls Tryd.prog 3 #[.int .i64 n, .int .i64 k, .int .u64 u, .int .i64 j] w fun e w' => e = .returned (.bool true) ∧ Below w.heap.size w w' := by
  by_cases h : 1 ≤ k ∧ k ≤ 64
  · exact wordNumbers_core n k u j _ _ _ _ _ _ _ w hT (fun W => fits_yes n k h.1 h.2 W) (fun W => refFits_yes n k h.1 h.2 b1 W) (fun W => cut_yes n k h.1 h.2 W) (fun W => refCut_yes n k h.1 h.2 b1 W)
      (fun W => zig_any n b1.1 (by omega) W) (fun W => refZig_any n b1 W) (fun W => zag_any u hu W) (fun W => refZag_any u hu W) (fun W => turn_any u hu j W) (fun W => refTurn_any u j hu W)
      (fun W => count_any u hu W) (fun W => refCount_any u hu W) (fun W hT => low_any u hu W hT) (fun W => refLow_any u hu W)
  · exact wordNumbers_core n k u j _ _ _ _ _ _ _ w hT (fun W => fits_no n k (by omega) W) (fun W => refFits_no n k (by omega) W) (fun W => cut_no n k (by omega) W) (fun W => refCut_no n k (by omega) W)
      (fun W => zig_any n b1.1 (by omega) W) (fun W => refZig_any n b1 W) (fun W => zag_any u hu W) (fun W => refZag_any u hu W) (fun W => turn_any u hu j W) (fun W => refTurn_any u j hu W)
      (fun W => count_any u hu W) (fun W => refCount_any u hu W) (fun W hT => low_any u hu W hT) (fun W => refLow_any u hu W)
end Go.Proofs.YtafdaeenjjokiaaDoor
