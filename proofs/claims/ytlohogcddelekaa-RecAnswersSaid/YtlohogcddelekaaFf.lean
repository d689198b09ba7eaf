/- The document's own number: the number of so many bytes at a place. -/
import Derived.Test.YtlohogcddelekaaFd
namespace Go.Proofs.Ytlohogcddelekaa
open Go.RowKit Go.Deep
set_option linter.unusedVariables false

set_option maxHeartbeats 1000000 in
theorem refNumber_any (b off l c p n q : Nat) (z : Int) (zs : List Int) (hl : zs.length = l) (h1 : 1 ≤ n) (h8 : n ≤ 8) (hp : p + n ≤ l) (hp2 : p ≤ 16) (hz : isBytes zs) (hq : fromN ((zs.drop p).take n) = q) (hzg : zagI q = z) (w : World) (g : Good (some ⟨b, off, none⟩) c zs w) :
    Calls Try.prog 24 #[.slice (some ⟨b, off, none⟩) l c, .int .i64 (p : Int), .int .i64 (n : Int)] w fun e w' => e = .returned (.int .i64 z) ∧ w = w' := by
  have hlc : l ≤ c := by have := g.2.1; omega
  have hll : ((zs.drop p).take n).length = n := by rw [List.length_take, List.length_drop]; omega
  have hq64 : q < 18446744073709551616 := by rw [← hq]; exact fromN_8 _ (hz.drop p) n h8
  have gI := ((g.drop p (by omega)).take n).1
  have F1 : ∀ c', Calls Try.prog 37 #[.slice (some ⟨b, off + p, none⟩) n c'] w fun e w' => e = .returned (.tuple #[.int .u64 (q : Int), .bool true]) ∧ w = w' := fun c' => refFrom_core _ _ c' n q hll ((hz.drop p).take n) h8 w gI (Lib.hid hq)
  have F2 : Calls Try.prog 38 #[.int .u64 (q : Int)] w fun e w' => e = .returned (.int .i64 z) ∧ w = w' := by rw [← hzg]; exact refZag_any q hq64 w
  have hc : c ≠ p := by omega
  have i0 : (0 : Int) ≤ (p : Int) := by omega
  have i1 : (p : Int) ≤ (p : Int) + (n : Int) := by omega
  have i2 : p ≤ c := by omega
  clear hq hzg gI hll hz g hl
  go_enter Try.func24, Try.ntmps24
  go_wp2_with fail
  (with_reducible refine (F1 _).mono ?_)
  rintro e w1 ⟨rfl, rfl⟩
  go_wp2_with fail
  (with_reducible refine F2.mono ?_)
  rintro e w1 ⟨rfl, rfl⟩
  go_wp2
  go_ret
  exact ⟨rfl, rfl⟩
end Go.Proofs.Ytlohogcddelekaa
