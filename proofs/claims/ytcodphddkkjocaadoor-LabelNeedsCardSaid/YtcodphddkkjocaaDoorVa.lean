/- Layer 1 for the stages above it: Zig, Zag, mask. -/
import Derived.Test.YtcodphddkkjocaaDoorGc
import Derived.Test.YtcodphddkkjocaaDoorOnes
import Derived.WalkKit
import Derived.WalkSpells
import Derived.WalkLawsBesides
namespace Go.Proofs.YtcodphddkkjocaaDoor
open Go.RowKit

end Go.Proofs.YtcodphddkkjocaaDoor
