/- Layer 1 for the stages above it: Zig, Zag, mask. -/
import Derived.Test.YtlohogcddelekaaGc
import Derived.Test.YtlohogcddelekaaOnes
import Derived.WalkKit
import Derived.WalkSpells
import Derived.WalkLawsBesides
namespace Go.Proofs.Ytlohogcddelekaa
open Go.RowKit

set_option maxHeartbeats 400000 in
theorem zig_any (n : Int) (h1 : -9223372036854775808 ≤ n) (h2 : n < 9223372036854775808) (w : World) :
    Calls Try.prog 51 #[.int .i64 n] w fun e w' => e = .returned (.int .u64 (zigI n)) ∧ w = w' := by
  have hz := zig_walk n h1 h2
  go_enter Try.func51, Try.ntmps51
  go_wp2
  go_ret
  exact ⟨rfl, rfl⟩

set_option maxHeartbeats 400000 in
theorem zag_any (n : Nat) (hn : n < 18446744073709551616) (w : World) :
    Calls Try.prog 54 #[.int .u64 n] w fun e w' => e = .returned (.int .i64 (zagI n)) ∧ w = w' := by
  have hz := zag_walk n hn
  go_enter Try.func54, Try.ntmps54
  go_wp2
  go_ret
  exact ⟨rfl, rfl⟩

set_option maxHeartbeats 400000 in
theorem mask_any (k : Int) (h : 1 ≤ k) (h2 : k ≤ 63) (w : World) :
    Calls Try.prog 50 #[.int .i64 k] w fun e w' => e = .returned (.int .u64 ((2 ^ k.toNat - 1 : Nat) : Int)) ∧ w = w' := by
  go_enter Try.func50, Try.ntmps50
  go_wp2
  go_ret
  rw [mask_walk k.toNat (by omega)]
  exact ⟨rfl, rfl⟩

end Go.Proofs.Ytlohogcddelekaa
