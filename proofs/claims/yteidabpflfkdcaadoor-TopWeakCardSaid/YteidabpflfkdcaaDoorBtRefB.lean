/-
  WALKS (layer 3, baths): the reference's ValidVat.
-/
import Derived.Test.YteidabpflfkdcaaDoorBtRefA
import Derived.Test.YteidabpflfkdcaaDoorBtWalkC
namespace Go.Proofs.YteidabpflfkdcaaDoor.Bt
open Go Go.RowKit

end Go.Proofs.YteidabpflfkdcaaDoor.Bt
