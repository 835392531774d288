/-
  No cell of these rows narrows 'for every input' (looked for: loops, veiled, ifaces, maps, wideKeys, modest, calm, conditions, laid).
  DERIVED. THE GIVEN ROWS OF THIS SEAT. 8 by the template 'for every input the law returns true; each argument reads behind the call as it read before'; 0 by the template 'total and deterministic' (their statements: YtbbbnfodjkpiaaaTotals.lean).
  GIVEN WITH THE SEED: the statements are not yours to turn. If you find one false, say at which input.
  Laid BY PROGRAM, IN A SANDBOX (cutbox-rows.mjs): the forced cells as the released guide's own fill.sh prints them over the translation 0fb031acae7a4456… (all of the seat's roots in one cut). By AI agents, Wed Nov 11 2026. No macro, syntax, notation, axiom, sorry.
-/
import Derived.Test.YtbbbnfodjkpiaaaChecked
import GoSem.Claim
import GoSem.ClaimJoined
import GoSem.ClaimMapViews
import Derived.JoinedTies
import Derived.KernelRfl
namespace Go.Proofs.Ytbbbnfodjkpiaaa
/- THE CELL 'sum', in the pinned program and in every row, IS THE sha256 OF THE DUMP (.gsa) THAT YtbbbnfodjkpiaaaProg.lean LOADS. Nothing in Lean hashes anything: it is a label: what it is worth is what the hold of that sum in a sandbox is worth. -/
noncomputable def Try.pinned : Pinned := { name := "ytbbbnfodjkpiaaa", sum := "0fb031acae7a4456120c2a33f5c1da88cc5ef7a67ad7e9cbf693766a6768b83f", checked := Try.checked }
namespace Rows
def none {H : Type} : Left H := { results := [], args := [] }

/-- 'armaturelaw04.ColdReadings': WHATEVER THE INPUT: true; the input reads as it did. -/
def coldReadingsSpec : ChangeSpec := { name := "coldReadings", fn := fun _ => fun
  | [d1, d2, d3] => { results := [.lit (.bool true)], args := [d1, d2, d3] }
  | _ => none }
def coldReadingsRow : OpenClaim := { program := "ytbbbnfodjkpiaaa", sum := "0fb031acae7a4456120c2a33f5c1da88cc5ef7a67ad7e9cbf693766a6768b83f", func := "armature/armaturelaw04.ColdReadings", spec := "coldReadings", unfollowed := true, recurses := true, apart := false }
def ColdReadingsSaid : Prop := coldReadingsRow.holds Try.pinned (OpenSpec.ofChange coldReadingsSpec)

/-- ITS FALSE NEIGHBOUR: 'it returns false'. Refute it at one input. -/
def coldReadingsWrong : ChangeSpec := { name := "coldReadings", fn := fun _ => fun
  | [d1, d2, d3] => { results := [.lit (.bool false)], args := [d1, d2, d3] }
  | _ => none }
def ColdReadingsWrongFalsely : Prop := coldReadingsRow.holds Try.pinned (OpenSpec.ofChange coldReadingsWrong)

/-- 'armaturelaw04.ColdChills': WHATEVER THE INPUT: true; the input reads as it did. -/
def coldChillsSpec : ChangeSpec := { name := "coldChills", fn := fun _ => fun
  | [d1, d2, d3] => { results := [.lit (.bool true)], args := [d1, d2, d3] }
  | _ => none }
def coldChillsRow : OpenClaim := { program := "ytbbbnfodjkpiaaa", sum := "0fb031acae7a4456120c2a33f5c1da88cc5ef7a67ad7e9cbf693766a6768b83f", func := "armature/armaturelaw04.ColdChills", spec := "coldChills", unfollowed := true, recurses := true, apart := false }
def ColdChillsSaid : Prop := coldChillsRow.holds Try.pinned (OpenSpec.ofChange coldChillsSpec)

/-- ITS FALSE NEIGHBOUR: 'it returns false'. Refute it at one input. -/
def coldChillsWrong : ChangeSpec := { name := "coldChills", fn := fun _ => fun
  | [d1, d2, d3] => { results := [.lit (.bool false)], args := [d1, d2, d3] }
  | _ => none }
def ColdChillsWrongFalsely : Prop := coldChillsRow.holds Try.pinned (OpenSpec.ofChange coldChillsWrong)

/-- 'armaturelaw04.ColdStretches': WHATEVER THE INPUT: true; the input reads as it did. -/
def coldStretchesSpec : ChangeSpec := { name := "coldStretches", fn := fun _ => fun
  | [d1, d2, d3] => { results := [.lit (.bool true)], args := [d1, d2, d3] }
  | _ => none }
def coldStretchesRow : OpenClaim := { program := "ytbbbnfodjkpiaaa", sum := "0fb031acae7a4456120c2a33f5c1da88cc5ef7a67ad7e9cbf693766a6768b83f", func := "armature/armaturelaw04.ColdStretches", spec := "coldStretches", unfollowed := true, recurses := true, apart := false }
def ColdStretchesSaid : Prop := coldStretchesRow.holds Try.pinned (OpenSpec.ofChange coldStretchesSpec)

/-- ITS FALSE NEIGHBOUR: 'it returns false'. Refute it at one input. -/
def coldStretchesWrong : ChangeSpec := { name := "coldStretches", fn := fun _ => fun
  | [d1, d2, d3] => { results := [.lit (.bool false)], args := [d1, d2, d3] }
  | _ => none }
def ColdStretchesWrongFalsely : Prop := coldStretchesRow.holds Try.pinned (OpenSpec.ofChange coldStretchesWrong)

/-- 'armaturelaw04.ColdLoads': WHATEVER THE INPUT: true; the input reads as it did. -/
def coldLoadsSpec : ChangeSpec := { name := "coldLoads", fn := fun _ => fun
  | [d1, d2, d3] => { results := [.lit (.bool true)], args := [d1, d2, d3] }
  | _ => none }
def coldLoadsRow : OpenClaim := { program := "ytbbbnfodjkpiaaa", sum := "0fb031acae7a4456120c2a33f5c1da88cc5ef7a67ad7e9cbf693766a6768b83f", func := "armature/armaturelaw04.ColdLoads", spec := "coldLoads", unfollowed := true, recurses := true, apart := false }
def ColdLoadsSaid : Prop := coldLoadsRow.holds Try.pinned (OpenSpec.ofChange coldLoadsSpec)

/-- ITS FALSE NEIGHBOUR: 'it returns false'. Refute it at one input. -/
def coldLoadsWrong : ChangeSpec := { name := "coldLoads", fn := fun _ => fun
  | [d1, d2, d3] => { results := [.lit (.bool false)], args := [d1, d2, d3] }
  | _ => none }
def ColdLoadsWrongFalsely : Prop := coldLoadsRow.holds Try.pinned (OpenSpec.ofChange coldLoadsWrong)

/-- 'armaturelaw04.ColdLanes': WHATEVER THE INPUT: true; the input reads as it did. -/
def coldLanesSpec : ChangeSpec := { name := "coldLanes", fn := fun _ => fun
  | [d1, d2] => { results := [.lit (.bool true)], args := [d1, d2] }
  | _ => none }
def coldLanesRow : OpenClaim := { program := "ytbbbnfodjkpiaaa", sum := "0fb031acae7a4456120c2a33f5c1da88cc5ef7a67ad7e9cbf693766a6768b83f", func := "armature/armaturelaw04.ColdLanes", spec := "coldLanes", unfollowed := true, recurses := true, apart := false }
def ColdLanesSaid : Prop := coldLanesRow.holds Try.pinned (OpenSpec.ofChange coldLanesSpec)

/-- ITS FALSE NEIGHBOUR: 'it returns false'. Refute it at one input. -/
def coldLanesWrong : ChangeSpec := { name := "coldLanes", fn := fun _ => fun
  | [d1, d2] => { results := [.lit (.bool false)], args := [d1, d2] }
  | _ => none }
def ColdLanesWrongFalsely : Prop := coldLanesRow.holds Try.pinned (OpenSpec.ofChange coldLanesWrong)

/-- 'armaturelaw04.ColdColder': WHATEVER THE INPUT: true; the input reads as it did. -/
def coldColderSpec : ChangeSpec := { name := "coldColder", fn := fun _ => fun
  | [d1, d2, d3, d4] => { results := [.lit (.bool true)], args := [d1, d2, d3, d4] }
  | _ => none }
def coldColderRow : OpenClaim := { program := "ytbbbnfodjkpiaaa", sum := "0fb031acae7a4456120c2a33f5c1da88cc5ef7a67ad7e9cbf693766a6768b83f", func := "armature/armaturelaw04.ColdColder", spec := "coldColder", unfollowed := true, recurses := true, apart := false }
def ColdColderSaid : Prop := coldColderRow.holds Try.pinned (OpenSpec.ofChange coldColderSpec)

/-- ITS FALSE NEIGHBOUR: 'it returns false'. Refute it at one input. -/
def coldColderWrong : ChangeSpec := { name := "coldColder", fn := fun _ => fun
  | [d1, d2, d3, d4] => { results := [.lit (.bool false)], args := [d1, d2, d3, d4] }
  | _ => none }
def ColdColderWrongFalsely : Prop := coldColderRow.holds Try.pinned (OpenSpec.ofChange coldColderWrong)

/-- 'armaturelaw04.ColdKills': WHATEVER THE INPUT: true; the input reads as it did. -/
def coldKillsSpec : ChangeSpec := { name := "coldKills", fn := fun _ => fun
  | [d1, d2] => { results := [.lit (.bool true)], args := [d1, d2] }
  | _ => none }
def coldKillsRow : OpenClaim := { program := "ytbbbnfodjkpiaaa", sum := "0fb031acae7a4456120c2a33f5c1da88cc5ef7a67ad7e9cbf693766a6768b83f", func := "armature/armaturelaw04.ColdKills", spec := "coldKills", unfollowed := true, recurses := true, apart := false }
def ColdKillsSaid : Prop := coldKillsRow.holds Try.pinned (OpenSpec.ofChange coldKillsSpec)

/-- ITS FALSE NEIGHBOUR: 'it returns false'. Refute it at one input. -/
def coldKillsWrong : ChangeSpec := { name := "coldKills", fn := fun _ => fun
  | [d1, d2] => { results := [.lit (.bool false)], args := [d1, d2] }
  | _ => none }
def ColdKillsWrongFalsely : Prop := coldKillsRow.holds Try.pinned (OpenSpec.ofChange coldKillsWrong)

/-- 'armaturelaw04.ColdPlaces': WHATEVER THE INPUT: true; the input reads as it did. -/
def coldPlacesSpec : ChangeSpec := { name := "coldPlaces", fn := fun _ => fun
  | [d1, d2, d3, d4] => { results := [.lit (.bool true)], args := [d1, d2, d3, d4] }
  | _ => none }
def coldPlacesRow : OpenClaim := { program := "ytbbbnfodjkpiaaa", sum := "0fb031acae7a4456120c2a33f5c1da88cc5ef7a67ad7e9cbf693766a6768b83f", func := "armature/armaturelaw04.ColdPlaces", spec := "coldPlaces", unfollowed := true, recurses := true, apart := false }
def ColdPlacesSaid : Prop := coldPlacesRow.holds Try.pinned (OpenSpec.ofChange coldPlacesSpec)

/-- ITS FALSE NEIGHBOUR: 'it returns false'. Refute it at one input. -/
def coldPlacesWrong : ChangeSpec := { name := "coldPlaces", fn := fun _ => fun
  | [d1, d2, d3, d4] => { results := [.lit (.bool false)], args := [d1, d2, d3, d4] }
  | _ => none }
def ColdPlacesWrongFalsely : Prop := coldPlacesRow.holds Try.pinned (OpenSpec.ofChange coldPlacesWrong)

/- THE SECOND FORM. 'bulk': how many values and letters a reading holds, each counted each time it is reached (what is shared counts as often as it is met; a slice's spare places count too). A statement '..UptoSaid' is the law's where the arguments, and the package variables that the reading takes, are together of bulk at most 1048576: NARROWER than '..Said'. Prove '..Said' where nothing that the law and all that it calls make is longer than what came in: it says more and counts as full. Else prove '..UptoSaid'. A law counts once. -/
mutual
def uptoBulk {H : Type} : DataW H → Nat
  | .lit (.string bytes) => bytes.length + 1
  | .lit _ => 1
  | .nil => 1
  | .ptr d => uptoBulk d + 1
  | .slice elems spare => uptoBulkAll elems + uptoBulkAll spare + 1
  | .agg parts => uptoBulkAll parts + 1
  | .iface _ d => uptoBulk d + 1
  | .map entries => uptoBulkEntries entries + 1
  | .held _ => 1
def uptoBulkAll {H : Type} : List (DataW H) → Nat
  | [] => 0
  | d :: r => uptoBulk d + uptoBulkAll r
def uptoBulkEntries {H : Type} : List (Lit × DataW H) → Nat
  | [] => 0
  | x :: r => uptoBulkEntry x + uptoBulkEntries r
def uptoBulkEntry {H : Type} : Lit × DataW H → Nat
  | (.string bytes, d) => bytes.length + uptoBulk d + 1
  | (_, d) => uptoBulk d + 1
 end
def uptoSmall : (H : Type) → List (DataW H) → Bool := fun _ ds => decide (uptoBulkAll ds ≤ 1048576)
def OpenSpec.upto (s : _root_.Go.ChangeSpec) : _root_.Go.OpenSpec := { _root_.Go.OpenSpec.ofChange s with cond := some uptoSmall }

/-- 'armaturelaw04.ColdReadings', WHERE WHAT IT READS IS OF BULK AT MOST 1048576: true; the input reads as it did. -/
def coldReadingsUptoRow : OpenClaim := { program := "ytbbbnfodjkpiaaa", sum := "0fb031acae7a4456120c2a33f5c1da88cc5ef7a67ad7e9cbf693766a6768b83f", func := "armature/armaturelaw04.ColdReadings", spec := "coldReadings", unfollowed := true, recurses := true, apart := false, narrowed := true }
def ColdReadingsUptoSaid : Prop := coldReadingsUptoRow.holds Try.pinned (OpenSpec.upto coldReadingsSpec)

/-- 'armaturelaw04.ColdChills', WHERE WHAT IT READS IS OF BULK AT MOST 1048576: true; the input reads as it did. -/
def coldChillsUptoRow : OpenClaim := { program := "ytbbbnfodjkpiaaa", sum := "0fb031acae7a4456120c2a33f5c1da88cc5ef7a67ad7e9cbf693766a6768b83f", func := "armature/armaturelaw04.ColdChills", spec := "coldChills", unfollowed := true, recurses := true, apart := false, narrowed := true }
def ColdChillsUptoSaid : Prop := coldChillsUptoRow.holds Try.pinned (OpenSpec.upto coldChillsSpec)

/-- 'armaturelaw04.ColdStretches', WHERE WHAT IT READS IS OF BULK AT MOST 1048576: true; the input reads as it did. -/
def coldStretchesUptoRow : OpenClaim := { program := "ytbbbnfodjkpiaaa", sum := "0fb031acae7a4456120c2a33f5c1da88cc5ef7a67ad7e9cbf693766a6768b83f", func := "armature/armaturelaw04.ColdStretches", spec := "coldStretches", unfollowed := true, recurses := true, apart := false, narrowed := true }
def ColdStretchesUptoSaid : Prop := coldStretchesUptoRow.holds Try.pinned (OpenSpec.upto coldStretchesSpec)

/-- 'armaturelaw04.ColdLoads', WHERE WHAT IT READS IS OF BULK AT MOST 1048576: true; the input reads as it did. -/
def coldLoadsUptoRow : OpenClaim := { program := "ytbbbnfodjkpiaaa", sum := "0fb031acae7a4456120c2a33f5c1da88cc5ef7a67ad7e9cbf693766a6768b83f", func := "armature/armaturelaw04.ColdLoads", spec := "coldLoads", unfollowed := true, recurses := true, apart := false, narrowed := true }
def ColdLoadsUptoSaid : Prop := coldLoadsUptoRow.holds Try.pinned (OpenSpec.upto coldLoadsSpec)

/-- 'armaturelaw04.ColdLanes', WHERE WHAT IT READS IS OF BULK AT MOST 1048576: true; the input reads as it did. -/
def coldLanesUptoRow : OpenClaim := { program := "ytbbbnfodjkpiaaa", sum := "0fb031acae7a4456120c2a33f5c1da88cc5ef7a67ad7e9cbf693766a6768b83f", func := "armature/armaturelaw04.ColdLanes", spec := "coldLanes", unfollowed := true, recurses := true, apart := false, narrowed := true }
def ColdLanesUptoSaid : Prop := coldLanesUptoRow.holds Try.pinned (OpenSpec.upto coldLanesSpec)

/-- 'armaturelaw04.ColdColder', WHERE WHAT IT READS IS OF BULK AT MOST 1048576: true; the input reads as it did. -/
def coldColderUptoRow : OpenClaim := { program := "ytbbbnfodjkpiaaa", sum := "0fb031acae7a4456120c2a33f5c1da88cc5ef7a67ad7e9cbf693766a6768b83f", func := "armature/armaturelaw04.ColdColder", spec := "coldColder", unfollowed := true, recurses := true, apart := false, narrowed := true }
def ColdColderUptoSaid : Prop := coldColderUptoRow.holds Try.pinned (OpenSpec.upto coldColderSpec)

/-- 'armaturelaw04.ColdKills', WHERE WHAT IT READS IS OF BULK AT MOST 1048576: true; the input reads as it did. -/
def coldKillsUptoRow : OpenClaim := { program := "ytbbbnfodjkpiaaa", sum := "0fb031acae7a4456120c2a33f5c1da88cc5ef7a67ad7e9cbf693766a6768b83f", func := "armature/armaturelaw04.ColdKills", spec := "coldKills", unfollowed := true, recurses := true, apart := false, narrowed := true }
def ColdKillsUptoSaid : Prop := coldKillsUptoRow.holds Try.pinned (OpenSpec.upto coldKillsSpec)

/-- 'armaturelaw04.ColdPlaces', WHERE WHAT IT READS IS OF BULK AT MOST 1048576: true; the input reads as it did. -/
def coldPlacesUptoRow : OpenClaim := { program := "ytbbbnfodjkpiaaa", sum := "0fb031acae7a4456120c2a33f5c1da88cc5ef7a67ad7e9cbf693766a6768b83f", func := "armature/armaturelaw04.ColdPlaces", spec := "coldPlaces", unfollowed := true, recurses := true, apart := false, narrowed := true }
def ColdPlacesUptoSaid : Prop := coldPlacesUptoRow.holds Try.pinned (OpenSpec.upto coldPlacesSpec)

end Rows
end Go.Proofs.Ytbbbnfodjkpiaaa
