/-
  WALKS (layer 5, carve): the hull, at all views.
-/
import Derived.Test.YtnkfkbknckpkdaaCvList
namespace Go.Proofs.Ytnkfkbknckpkdaa.Cv
open Go Go.RowKit

end Go.Proofs.Ytnkfkbknckpkdaa.Cv
