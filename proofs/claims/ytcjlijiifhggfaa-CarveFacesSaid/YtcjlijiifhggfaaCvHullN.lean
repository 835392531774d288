/-
  WALKS (layer 5, carve): the hull, at all views.
-/
import Derived.Test.YtcjlijiifhggfaaCvList
namespace Go.Proofs.Ytcjlijiifhggfaa.Cv
open Go Go.RowKit

end Go.Proofs.Ytcjlijiifhggfaa.Cv
