/- The document's own Decode, All, at every bytes. -/
import Derived.Test.YtdmkkfpbgpijjaaGreatWap
import Derived.Test.YtdmkkfpbgpijjaaGreatWar
import Derived.Test.YtdmkkfpbgpijjaaGreatWas
import Derived.Test.YtdmkkfpbgpijjaaGreatWat
import Derived.Test.YtdmkkfpbgpijjaaGreatWau
import Derived.Test.YtdmkkfpbgpijjaaGreatWav
import Derived.Test.YtdmkkfpbgpijjaaGreatWaw
import Derived.Test.YtdmkkfpbgpijjaaGreatWax
namespace Go.Proofs.YtdmkkfpbgpijjaaGreat
open Go.RowKit Go.Deep
set_option linter.unusedVariables false

theorem refDec_any (A : Option Addr) (l c : Nat) (zs : List Int) (hl : zs.length = l) (hz : isBytes zs) (w : World) (g : Good A c zs w) :
    Calls Tryz.prog 64 #[.slice A l c] w (DecSays (decR zs) (decN zs) w) := by
  by_cases h3 : l < 3
  · have h := ref_short zs hz (.inl (by omega))
    rw [h.1, h.2]
    exact refDec_short A l c zs hl h3 w
  obtain ⟨b, off, rfl⟩ := g.some (by omega)
  have h3 : 3 ≤ l := by omega
  by_cases k2 : ((fromN (zs.take 3) % 8 : Nat) : Int) + 1 = 2
  · exact refDec_2 b off l c zs hl h3 hz k2 w g
  by_cases k8 : ((fromN (zs.take 3) % 8 : Nat) : Int) + 1 = 8
  · exact refDec_8 b off l c zs hl h3 hz k8 w g
  by_cases k1 : ((fromN (zs.take 3) % 8 : Nat) : Int) + 1 = 1
  · by_cases ho : fromN ((zs.drop 7).take 1) % 2 = 1 <;> by_cases hn : fromN ((zs.drop 7).take 1) / 2 % 2 = 1
    · exact refDec_1_tt b off l c zs hl h3 hz k1 ho hn w g
    · exact refDec_1_tf b off l c zs hl h3 hz k1 ho (by omega) w g
    · exact refDec_1_ft b off l c zs hl h3 hz k1 (by omega) hn w g
    · exact refDec_1_ff b off l c zs hl h3 hz k1 (by omega) (by omega) w g
  by_cases k7 : ((fromN (zs.take 3) % 8 : Nat) : Int) + 1 = 7
  · by_cases ho : fromN ((zs.drop 7).take 1) % 2 = 1 <;> by_cases hn : fromN ((zs.drop 7).take 1) / 2 % 2 = 1
    · exact refDec_7_tt b off l c zs hl h3 hz k7 ho hn w g
    · exact refDec_7_tf b off l c zs hl h3 hz k7 ho (by omega) w g
    · exact refDec_7_ft b off l c zs hl h3 hz k7 (by omega) hn w g
    · exact refDec_7_ff b off l c zs hl h3 hz k7 (by omega) (by omega) w g
  exact refDec_plain b off l c zs hl h3 hz (by omega) (by omega) w g
/-- The document's All, at every bytes. -/
theorem refAll_any (A : Option Addr) (l c : Nat) (zs : List Int) (hl : zs.length = l) (hl2 : l ≤ 3000) (hz : isBytes zs) (w : World) (g : Good A c zs w) :
    Calls Tryz.prog 38 #[.slice A l c] w (AllSays zs w) := refAll_of (fun A l c zs hl hz w g => refDec_any A l c zs hl hz w g) A l c zs hl hl2 hz w g
end Go.Proofs.YtdmkkfpbgpijjaaGreat
