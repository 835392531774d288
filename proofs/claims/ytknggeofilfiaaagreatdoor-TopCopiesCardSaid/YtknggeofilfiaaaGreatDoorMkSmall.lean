/-
  THE WALK of the law's Small at any labels: it answers a bool (of sums that pass an int nothing is said).
-/
import Derived.Test.YtknggeofilfiaaaGreatDoorMkSameL
namespace Go.Proofs.YtknggeofilfiaaaGreatDoor.Mk
open Go Go.RowKit Go.Maps

end Go.Proofs.YtknggeofilfiaaaGreatDoor.Mk
