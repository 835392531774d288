/-
  WALKS (layer 4, cold): readings that are valid, by the reference.
-/
import Derived.Test.YteidabpflfkdcaaDoorCdWalkA
import Derived.IntWalk
namespace Go.Proofs.YteidabpflfkdcaaDoor.Cd
open Go Go.RowKit Go.Sort

end Go.Proofs.YteidabpflfkdcaaDoor.Cd
