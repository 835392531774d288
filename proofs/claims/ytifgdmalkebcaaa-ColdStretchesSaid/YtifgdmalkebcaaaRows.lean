/-
  No cell of these rows narrows 'for every input' (looked for: loops, veiled, ifaces, maps, wideKeys, modest, calm, conditions, laid).
  DERIVED. THE GIVEN ROWS OF THIS SEAT. 11 by the template 'for every input the law returns true; each argument reads behind the call as it read before'; 0 by the template 'total and deterministic' (their statements: YtifgdmalkebcaaaTotals.lean).
  GIVEN WITH THE SEED: the statements are not yours to turn. If you find one false, say at which input.
  Laid BY PROGRAM, IN A SANDBOX (cutbox-rows.mjs): the forced cells as the released guide's own fill.sh prints them over the translation 74bf603224870e97… (all of the seat's roots in one cut). By AI agents, Wed Nov 11 2026. No macro, syntax, notation, axiom, sorry.
-/
import Derived.Test.YtifgdmalkebcaaaChecked
import GoSem.Claim
import GoSem.ClaimJoined
import GoSem.ClaimMapViews
import Derived.JoinedTies
import Derived.KernelRfl
namespace Go.Proofs.Ytifgdmalkebcaaa
/- THE CELL 'sum', in the pinned program and in every row, IS THE sha256 OF THE DUMP (.gsa) THAT YtifgdmalkebcaaaProg.lean LOADS. Nothing in Lean hashes anything: it is a label: what it is worth is what the hold of that sum in a sandbox is worth. -/
noncomputable def Try.pinned : Pinned := { name := "ytifgdmalkebcaaa", sum := "74bf603224870e97f1c13737e1f8435dda5980a9ecce57ef2171a4e6eb995e28", checked := Try.checked }
namespace Rows
def none {H : Type} : Left H := { results := [], args := [] }

/-- 'armaturelaw04.ColdReadings': WHATEVER THE INPUT: true; the input reads as it did. -/
def coldReadingsSpec : ChangeSpec := { name := "coldReadings", fn := fun _ => fun
  | [d1, d2, d3] => { results := [.lit (.bool true)], args := [d1, d2, d3] }
  | _ => none }
def coldReadingsRow : OpenClaim := { program := "ytifgdmalkebcaaa", sum := "74bf603224870e97f1c13737e1f8435dda5980a9ecce57ef2171a4e6eb995e28", func := "armature/armaturelaw04.ColdReadings", spec := "coldReadings", unfollowed := true, recurses := true, plainKeys := false, apart := false }
def ColdReadingsSaid : Prop := coldReadingsRow.holds Try.pinned (OpenSpec.ofChange coldReadingsSpec)

/-- ITS FALSE NEIGHBOUR: 'it returns false'. Refute it at one input. -/
def coldReadingsWrong : ChangeSpec := { name := "coldReadings", fn := fun _ => fun
  | [d1, d2, d3] => { results := [.lit (.bool false)], args := [d1, d2, d3] }
  | _ => none }
def ColdReadingsWrongFalsely : Prop := coldReadingsRow.holds Try.pinned (OpenSpec.ofChange coldReadingsWrong)

/-- 'armaturelaw04.ColdChills': WHATEVER THE INPUT: true; the input reads as it did. -/
def coldChillsSpec : ChangeSpec := { name := "coldChills", fn := fun _ => fun
  | [d1, d2, d3] => { results := [.lit (.bool true)], args := [d1, d2, d3] }
  | _ => none }
def coldChillsRow : OpenClaim := { program := "ytifgdmalkebcaaa", sum := "74bf603224870e97f1c13737e1f8435dda5980a9ecce57ef2171a4e6eb995e28", func := "armature/armaturelaw04.ColdChills", spec := "coldChills", unfollowed := true, recurses := true, plainKeys := false, apart := false }
def ColdChillsSaid : Prop := coldChillsRow.holds Try.pinned (OpenSpec.ofChange coldChillsSpec)

/-- ITS FALSE NEIGHBOUR: 'it returns false'. Refute it at one input. -/
def coldChillsWrong : ChangeSpec := { name := "coldChills", fn := fun _ => fun
  | [d1, d2, d3] => { results := [.lit (.bool false)], args := [d1, d2, d3] }
  | _ => none }
def ColdChillsWrongFalsely : Prop := coldChillsRow.holds Try.pinned (OpenSpec.ofChange coldChillsWrong)

/-- 'armaturelaw04.ColdStretches': WHATEVER THE INPUT: true; the input reads as it did. -/
def coldStretchesSpec : ChangeSpec := { name := "coldStretches", fn := fun _ => fun
  | [d1, d2, d3] => { results := [.lit (.bool true)], args := [d1, d2, d3] }
  | _ => none }
def coldStretchesRow : OpenClaim := { program := "ytifgdmalkebcaaa", sum := "74bf603224870e97f1c13737e1f8435dda5980a9ecce57ef2171a4e6eb995e28", func := "armature/armaturelaw04.ColdStretches", spec := "coldStretches", unfollowed := true, recurses := true, plainKeys := false, apart := false }
def ColdStretchesSaid : Prop := coldStretchesRow.holds Try.pinned (OpenSpec.ofChange coldStretchesSpec)

/-- ITS FALSE NEIGHBOUR: 'it returns false'. Refute it at one input. -/
def coldStretchesWrong : ChangeSpec := { name := "coldStretches", fn := fun _ => fun
  | [d1, d2, d3] => { results := [.lit (.bool false)], args := [d1, d2, d3] }
  | _ => none }
def ColdStretchesWrongFalsely : Prop := coldStretchesRow.holds Try.pinned (OpenSpec.ofChange coldStretchesWrong)

/-- 'armaturelaw04.ColdLoads': WHATEVER THE INPUT: true; the input reads as it did. -/
def coldLoadsSpec : ChangeSpec := { name := "coldLoads", fn := fun _ => fun
  | [d1, d2, d3] => { results := [.lit (.bool true)], args := [d1, d2, d3] }
  | _ => none }
def coldLoadsRow : OpenClaim := { program := "ytifgdmalkebcaaa", sum := "74bf603224870e97f1c13737e1f8435dda5980a9ecce57ef2171a4e6eb995e28", func := "armature/armaturelaw04.ColdLoads", spec := "coldLoads", unfollowed := true, recurses := true, plainKeys := false, apart := false }
def ColdLoadsSaid : Prop := coldLoadsRow.holds Try.pinned (OpenSpec.ofChange coldLoadsSpec)

/-- ITS FALSE NEIGHBOUR: 'it returns false'. Refute it at one input. -/
def coldLoadsWrong : ChangeSpec := { name := "coldLoads", fn := fun _ => fun
  | [d1, d2, d3] => { results := [.lit (.bool false)], args := [d1, d2, d3] }
  | _ => none }
def ColdLoadsWrongFalsely : Prop := coldLoadsRow.holds Try.pinned (OpenSpec.ofChange coldLoadsWrong)

/-- 'armaturelaw04.ColdLanes': WHATEVER THE INPUT: true; the input reads as it did. -/
def coldLanesSpec : ChangeSpec := { name := "coldLanes", fn := fun _ => fun
  | [d1, d2] => { results := [.lit (.bool true)], args := [d1, d2] }
  | _ => none }
def coldLanesRow : OpenClaim := { program := "ytifgdmalkebcaaa", sum := "74bf603224870e97f1c13737e1f8435dda5980a9ecce57ef2171a4e6eb995e28", func := "armature/armaturelaw04.ColdLanes", spec := "coldLanes", unfollowed := true, recurses := true, plainKeys := false, apart := false }
def ColdLanesSaid : Prop := coldLanesRow.holds Try.pinned (OpenSpec.ofChange coldLanesSpec)

/-- ITS FALSE NEIGHBOUR: 'it returns false'. Refute it at one input. -/
def coldLanesWrong : ChangeSpec := { name := "coldLanes", fn := fun _ => fun
  | [d1, d2] => { results := [.lit (.bool false)], args := [d1, d2] }
  | _ => none }
def ColdLanesWrongFalsely : Prop := coldLanesRow.holds Try.pinned (OpenSpec.ofChange coldLanesWrong)

/-- 'armaturelaw04.ColdColder': WHATEVER THE INPUT: true; the input reads as it did. -/
def coldColderSpec : ChangeSpec := { name := "coldColder", fn := fun _ => fun
  | [d1, d2, d3, d4] => { results := [.lit (.bool true)], args := [d1, d2, d3, d4] }
  | _ => none }
def coldColderRow : OpenClaim := { program := "ytifgdmalkebcaaa", sum := "74bf603224870e97f1c13737e1f8435dda5980a9ecce57ef2171a4e6eb995e28", func := "armature/armaturelaw04.ColdColder", spec := "coldColder", unfollowed := true, recurses := true, plainKeys := false, apart := false }
def ColdColderSaid : Prop := coldColderRow.holds Try.pinned (OpenSpec.ofChange coldColderSpec)

/-- ITS FALSE NEIGHBOUR: 'it returns false'. Refute it at one input. -/
def coldColderWrong : ChangeSpec := { name := "coldColder", fn := fun _ => fun
  | [d1, d2, d3, d4] => { results := [.lit (.bool false)], args := [d1, d2, d3, d4] }
  | _ => none }
def ColdColderWrongFalsely : Prop := coldColderRow.holds Try.pinned (OpenSpec.ofChange coldColderWrong)

/-- 'armaturelaw04.ColdKills': WHATEVER THE INPUT: true; the input reads as it did. -/
def coldKillsSpec : ChangeSpec := { name := "coldKills", fn := fun _ => fun
  | [d1, d2] => { results := [.lit (.bool true)], args := [d1, d2] }
  | _ => none }
def coldKillsRow : OpenClaim := { program := "ytifgdmalkebcaaa", sum := "74bf603224870e97f1c13737e1f8435dda5980a9ecce57ef2171a4e6eb995e28", func := "armature/armaturelaw04.ColdKills", spec := "coldKills", unfollowed := true, recurses := true, plainKeys := false, apart := false }
def ColdKillsSaid : Prop := coldKillsRow.holds Try.pinned (OpenSpec.ofChange coldKillsSpec)

/-- ITS FALSE NEIGHBOUR: 'it returns false'. Refute it at one input. -/
def coldKillsWrong : ChangeSpec := { name := "coldKills", fn := fun _ => fun
  | [d1, d2] => { results := [.lit (.bool false)], args := [d1, d2] }
  | _ => none }
def ColdKillsWrongFalsely : Prop := coldKillsRow.holds Try.pinned (OpenSpec.ofChange coldKillsWrong)

/-- 'armaturelaw04.ColdPlaces': WHATEVER THE INPUT: true; the input reads as it did. -/
def coldPlacesSpec : ChangeSpec := { name := "coldPlaces", fn := fun _ => fun
  | [d1, d2, d3, d4] => { results := [.lit (.bool true)], args := [d1, d2, d3, d4] }
  | _ => none }
def coldPlacesRow : OpenClaim := { program := "ytifgdmalkebcaaa", sum := "74bf603224870e97f1c13737e1f8435dda5980a9ecce57ef2171a4e6eb995e28", func := "armature/armaturelaw04.ColdPlaces", spec := "coldPlaces", unfollowed := true, recurses := true, plainKeys := false, apart := false }
def ColdPlacesSaid : Prop := coldPlacesRow.holds Try.pinned (OpenSpec.ofChange coldPlacesSpec)

/-- ITS FALSE NEIGHBOUR: 'it returns false'. Refute it at one input. -/
def coldPlacesWrong : ChangeSpec := { name := "coldPlaces", fn := fun _ => fun
  | [d1, d2, d3, d4] => { results := [.lit (.bool false)], args := [d1, d2, d3, d4] }
  | _ => none }
def ColdPlacesWrongFalsely : Prop := coldPlacesRow.holds Try.pinned (OpenSpec.ofChange coldPlacesWrong)

/-- 'armaturelaw05.CarveBlocks': WHATEVER THE INPUT: true; the input reads as it did. -/
def carveBlocksSpec : ChangeSpec := { name := "carveBlocks", fn := fun _ => fun
  | [d1, d2, d3] => { results := [.lit (.bool true)], args := [d1, d2, d3] }
  | _ => none }
def carveBlocksRow : OpenClaim := { program := "ytifgdmalkebcaaa", sum := "74bf603224870e97f1c13737e1f8435dda5980a9ecce57ef2171a4e6eb995e28", func := "armature/armaturelaw05.CarveBlocks", spec := "carveBlocks", unfollowed := true, recurses := true, plainKeys := false, apart := false }
def CarveBlocksSaid : Prop := carveBlocksRow.holds Try.pinned (OpenSpec.ofChange carveBlocksSpec)

/-- ITS FALSE NEIGHBOUR: 'it returns false'. Refute it at one input. -/
def carveBlocksWrong : ChangeSpec := { name := "carveBlocks", fn := fun _ => fun
  | [d1, d2, d3] => { results := [.lit (.bool false)], args := [d1, d2, d3] }
  | _ => none }
def CarveBlocksWrongFalsely : Prop := carveBlocksRow.holds Try.pinned (OpenSpec.ofChange carveBlocksWrong)

/-- 'armaturelaw05.CarveOf': WHATEVER THE INPUT: true; the input reads as it did. -/
def carveOfSpec : ChangeSpec := { name := "carveOf", fn := fun _ => fun
  | [d1, d2, d3] => { results := [.lit (.bool true)], args := [d1, d2, d3] }
  | _ => none }
def carveOfRow : OpenClaim := { program := "ytifgdmalkebcaaa", sum := "74bf603224870e97f1c13737e1f8435dda5980a9ecce57ef2171a4e6eb995e28", func := "armature/armaturelaw05.CarveOf", spec := "carveOf", unfollowed := true, recurses := true, plainKeys := false, apart := false }
def CarveOfSaid : Prop := carveOfRow.holds Try.pinned (OpenSpec.ofChange carveOfSpec)

/-- ITS FALSE NEIGHBOUR: 'it returns false'. Refute it at one input. -/
def carveOfWrong : ChangeSpec := { name := "carveOf", fn := fun _ => fun
  | [d1, d2, d3] => { results := [.lit (.bool false)], args := [d1, d2, d3] }
  | _ => none }
def CarveOfWrongFalsely : Prop := carveOfRow.holds Try.pinned (OpenSpec.ofChange carveOfWrong)

/-- 'armaturelaw05.CarveHulls': WHATEVER THE INPUT: true; the input reads as it did. -/
def carveHullsSpec : ChangeSpec := { name := "carveHulls", fn := fun _ => fun
  | [d] => { results := [.lit (.bool true)], args := [d] }
  | _ => none }
def carveHullsRow : OpenClaim := { program := "ytifgdmalkebcaaa", sum := "74bf603224870e97f1c13737e1f8435dda5980a9ecce57ef2171a4e6eb995e28", func := "armature/armaturelaw05.CarveHulls", spec := "carveHulls", unfollowed := true, recurses := true, plainKeys := false, apart := false }
def CarveHullsSaid : Prop := carveHullsRow.holds Try.pinned (OpenSpec.ofChange carveHullsSpec)

/-- ITS FALSE NEIGHBOUR: 'it returns false'. Refute it at one input. -/
def carveHullsWrong : ChangeSpec := { name := "carveHulls", fn := fun _ => fun
  | [d] => { results := [.lit (.bool false)], args := [d] }
  | _ => none }
def CarveHullsWrongFalsely : Prop := carveHullsRow.holds Try.pinned (OpenSpec.ofChange carveHullsWrong)

/- THE SECOND FORM. 'bulk': how many values and letters a reading holds, each counted each time it is reached (what is shared counts as often as it is met; a slice's spare places count too). A statement '..UptoSaid' is the law's where the arguments, and the package variables that the reading takes, are together of bulk at most 1048576: NARROWER than '..Said'. Prove '..Said' where nothing that the law and all that it calls make is longer than what came in: it says more and counts as full. Else prove '..UptoSaid'. A law counts once. -/
mutual
def uptoBulk {H : Type} : DataW H → Nat
  | .lit (.string bytes) => bytes.length + 1
  | .lit _ => 1
  | .nil => 1
  | .ptr d => uptoBulk d + 1
  | .slice elems spare => uptoBulkAll elems + uptoBulkAll spare + 1
  | .agg parts => uptoBulkAll parts + 1
  | .iface _ d => uptoBulk d + 1
  | .map entries => uptoBulkEntries entries + 1
  | .held _ => 1
def uptoBulkAll {H : Type} : List (DataW H) → Nat
  | [] => 0
  | d :: r => uptoBulk d + uptoBulkAll r
def uptoBulkEntries {H : Type} : List (Lit × DataW H) → Nat
  | [] => 0
  | x :: r => uptoBulkEntry x + uptoBulkEntries r
def uptoBulkEntry {H : Type} : Lit × DataW H → Nat
  | (.string bytes, d) => bytes.length + uptoBulk d + 1
  | (_, d) => uptoBulk d + 1
 end
def uptoSmall : (H : Type) → List (DataW H) → Bool := fun _ ds => decide (uptoBulkAll ds ≤ 1048576)
def OpenSpec.upto (s : _root_.Go.ChangeSpec) : _root_.Go.OpenSpec := { _root_.Go.OpenSpec.ofChange s with cond := some uptoSmall }

/-- 'armaturelaw04.ColdReadings', WHERE WHAT IT READS IS OF BULK AT MOST 1048576: true; the input reads as it did. -/
def coldReadingsUptoRow : OpenClaim := { program := "ytifgdmalkebcaaa", sum := "74bf603224870e97f1c13737e1f8435dda5980a9ecce57ef2171a4e6eb995e28", func := "armature/armaturelaw04.ColdReadings", spec := "coldReadings", unfollowed := true, recurses := true, plainKeys := false, apart := false, narrowed := true }
def ColdReadingsUptoSaid : Prop := coldReadingsUptoRow.holds Try.pinned (OpenSpec.upto coldReadingsSpec)

/-- 'armaturelaw04.ColdChills', WHERE WHAT IT READS IS OF BULK AT MOST 1048576: true; the input reads as it did. -/
def coldChillsUptoRow : OpenClaim := { program := "ytifgdmalkebcaaa", sum := "74bf603224870e97f1c13737e1f8435dda5980a9ecce57ef2171a4e6eb995e28", func := "armature/armaturelaw04.ColdChills", spec := "coldChills", unfollowed := true, recurses := true, plainKeys := false, apart := false, narrowed := true }
def ColdChillsUptoSaid : Prop := coldChillsUptoRow.holds Try.pinned (OpenSpec.upto coldChillsSpec)

/-- 'armaturelaw04.ColdStretches', WHERE WHAT IT READS IS OF BULK AT MOST 1048576: true; the input reads as it did. -/
def coldStretchesUptoRow : OpenClaim := { program := "ytifgdmalkebcaaa", sum := "74bf603224870e97f1c13737e1f8435dda5980a9ecce57ef2171a4e6eb995e28", func := "armature/armaturelaw04.ColdStretches", spec := "coldStretches", unfollowed := true, recurses := true, plainKeys := false, apart := false, narrowed := true }
def ColdStretchesUptoSaid : Prop := coldStretchesUptoRow.holds Try.pinned (OpenSpec.upto coldStretchesSpec)

/-- 'armaturelaw04.ColdLoads', WHERE WHAT IT READS IS OF BULK AT MOST 1048576: true; the input reads as it did. -/
def coldLoadsUptoRow : OpenClaim := { program := "ytifgdmalkebcaaa", sum := "74bf603224870e97f1c13737e1f8435dda5980a9ecce57ef2171a4e6eb995e28", func := "armature/armaturelaw04.ColdLoads", spec := "coldLoads", unfollowed := true, recurses := true, plainKeys := false, apart := false, narrowed := true }
def ColdLoadsUptoSaid : Prop := coldLoadsUptoRow.holds Try.pinned (OpenSpec.upto coldLoadsSpec)

/-- 'armaturelaw04.ColdLanes', WHERE WHAT IT READS IS OF BULK AT MOST 1048576: true; the input reads as it did. -/
def coldLanesUptoRow : OpenClaim := { program := "ytifgdmalkebcaaa", sum := "74bf603224870e97f1c13737e1f8435dda5980a9ecce57ef2171a4e6eb995e28", func := "armature/armaturelaw04.ColdLanes", spec := "coldLanes", unfollowed := true, recurses := true, plainKeys := false, apart := false, narrowed := true }
def ColdLanesUptoSaid : Prop := coldLanesUptoRow.holds Try.pinned (OpenSpec.upto coldLanesSpec)

/-- 'armaturelaw04.ColdColder', WHERE WHAT IT READS IS OF BULK AT MOST 1048576: true; the input reads as it did. -/
def coldColderUptoRow : OpenClaim := { program := "ytifgdmalkebcaaa", sum := "74bf603224870e97f1c13737e1f8435dda5980a9ecce57ef2171a4e6eb995e28", func := "armature/armaturelaw04.ColdColder", spec := "coldColder", unfollowed := true, recurses := true, plainKeys := false, apart := false, narrowed := true }
def ColdColderUptoSaid : Prop := coldColderUptoRow.holds Try.pinned (OpenSpec.upto coldColderSpec)

/-- 'armaturelaw04.ColdKills', WHERE WHAT IT READS IS OF BULK AT MOST 1048576: true; the input reads as it did. -/
def coldKillsUptoRow : OpenClaim := { program := "ytifgdmalkebcaaa", sum := "74bf603224870e97f1c13737e1f8435dda5980a9ecce57ef2171a4e6eb995e28", func := "armature/armaturelaw04.ColdKills", spec := "coldKills", unfollowed := true, recurses := true, plainKeys := false, apart := false, narrowed := true }
def ColdKillsUptoSaid : Prop := coldKillsUptoRow.holds Try.pinned (OpenSpec.upto coldKillsSpec)

/-- 'armaturelaw04.ColdPlaces', WHERE WHAT IT READS IS OF BULK AT MOST 1048576: true; the input reads as it did. -/
def coldPlacesUptoRow : OpenClaim := { program := "ytifgdmalkebcaaa", sum := "74bf603224870e97f1c13737e1f8435dda5980a9ecce57ef2171a4e6eb995e28", func := "armature/armaturelaw04.ColdPlaces", spec := "coldPlaces", unfollowed := true, recurses := true, plainKeys := false, apart := false, narrowed := true }
def ColdPlacesUptoSaid : Prop := coldPlacesUptoRow.holds Try.pinned (OpenSpec.upto coldPlacesSpec)

/-- 'armaturelaw05.CarveBlocks', WHERE WHAT IT READS IS OF BULK AT MOST 1048576: true; the input reads as it did. -/
def carveBlocksUptoRow : OpenClaim := { program := "ytifgdmalkebcaaa", sum := "74bf603224870e97f1c13737e1f8435dda5980a9ecce57ef2171a4e6eb995e28", func := "armature/armaturelaw05.CarveBlocks", spec := "carveBlocks", unfollowed := true, recurses := true, plainKeys := false, apart := false, narrowed := true }
def CarveBlocksUptoSaid : Prop := carveBlocksUptoRow.holds Try.pinned (OpenSpec.upto carveBlocksSpec)

/-- 'armaturelaw05.CarveOf', WHERE WHAT IT READS IS OF BULK AT MOST 1048576: true; the input reads as it did. -/
def carveOfUptoRow : OpenClaim := { program := "ytifgdmalkebcaaa", sum := "74bf603224870e97f1c13737e1f8435dda5980a9ecce57ef2171a4e6eb995e28", func := "armature/armaturelaw05.CarveOf", spec := "carveOf", unfollowed := true, recurses := true, plainKeys := false, apart := false, narrowed := true }
def CarveOfUptoSaid : Prop := carveOfUptoRow.holds Try.pinned (OpenSpec.upto carveOfSpec)

/-- 'armaturelaw05.CarveHulls', WHERE WHAT IT READS IS OF BULK AT MOST 1048576: true; the input reads as it did. -/
def carveHullsUptoRow : OpenClaim := { program := "ytifgdmalkebcaaa", sum := "74bf603224870e97f1c13737e1f8435dda5980a9ecce57ef2171a4e6eb995e28", func := "armature/armaturelaw05.CarveHulls", spec := "carveHulls", unfollowed := true, recurses := true, plainKeys := false, apart := false, narrowed := true }
def CarveHullsUptoSaid : Prop := carveHullsUptoRow.holds Try.pinned (OpenSpec.upto carveHullsSpec)

end Rows
end Go.Proofs.Ytifgdmalkebcaaa
