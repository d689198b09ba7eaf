/- Layer 1 for the stages above it: Zig, Zag, mask. -/
import Derived.Test.YtcodphddkkjocaaGreatDoorGc
import Derived.Test.YtcodphddkkjocaaGreatDoorOnes
import Derived.WalkKit
import Derived.WalkSpells
import Derived.WalkLawsBesides
namespace Go.Proofs.YtcodphddkkjocaaGreatDoor
open Go.RowKit

end Go.Proofs.YtcodphddkkjocaaGreatDoor
