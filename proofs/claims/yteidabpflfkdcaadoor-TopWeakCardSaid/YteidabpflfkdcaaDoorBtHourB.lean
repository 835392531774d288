/-
  WALKS (layer 3, baths), hours: Hour, Balance.
-/
import Derived.Test.YteidabpflfkdcaaDoorBtHourA
namespace Go.Proofs.YteidabpflfkdcaaDoor.Bt
open Go Go.RowKit

end Go.Proofs.YteidabpflfkdcaaDoor.Bt
