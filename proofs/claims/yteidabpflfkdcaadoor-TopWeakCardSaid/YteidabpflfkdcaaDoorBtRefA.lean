/-
  WALKS (layer 3, baths), of the reference: what is valid, the total.
-/
import Derived.Test.YteidabpflfkdcaaDoorBtWalkB
namespace Go.Proofs.YteidabpflfkdcaaDoor.Bt
open Go Go.RowKit

theorem bath_of {x y z : Int} : bathB ⟨x, y, z⟩ = (rngB 1000000000 x && rngB 1000000000 y && rngB 1000000000 z) := rfl
theorem skin_of' {x y z o : Int} : skinB ⟨x, y, z, o⟩ = (rngB 1000000000 x && rngB 1000000000 y && rngB 1000000000 z && rngB 1000 o) := rfl
end Go.Proofs.YteidabpflfkdcaaDoor.Bt
