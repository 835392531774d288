/-
  No cell of these rows narrows 'for every input' (looked for: loops, veiled, ifaces, maps, wideKeys, modest, calm, conditions, laid).
  DERIVED. THE GIVEN ROWS OF THIS SEAT. 12 by the template 'for every input the law returns true; each argument reads behind the call as it read before'; 0 by the template 'total and deterministic' (their statements: YticcafjogmjkiaaTotals.lean).
  GIVEN WITH THE SEED: the statements are not yours to turn. If you find one false, say at which input.
  Laid BY PROGRAM, IN A SANDBOX (cutbox-rows.mjs): the forced cells as the released guide's own fill.sh prints them over the translation ebabe1deca4ff511… (all of the seat's roots in one cut). By AI agents, Wed Nov 11 2026. No macro, syntax, notation, axiom, sorry.
-/
import Derived.Test.YticcafjogmjkiaaChecked
import GoSem.Claim
import GoSem.ClaimJoined
import GoSem.ClaimMapViews
import Derived.JoinedTies
import Derived.KernelRfl
namespace Go.Proofs.Yticcafjogmjkiaa
/- THE CELL 'sum', in the pinned program and in every row, IS THE sha256 OF THE DUMP (.gsa) THAT YticcafjogmjkiaaProg.lean LOADS. Nothing in Lean hashes anything: it is a label: what it is worth is what the hold of that sum in a sandbox is worth. -/
noncomputable def Try.pinned : Pinned := { name := "yticcafjogmjkiaa", sum := "ebabe1deca4ff511f0270562ab3b9ff20104e44d8318b0a6e7bb0fa382db320e", checked := Try.checked }
namespace Rows
def none {H : Type} : Left H := { results := [], args := [] }

/-- 'armaturelaw05.CarveBlocks': WHATEVER THE INPUT: true; the input reads as it did. -/
def carveBlocksSpec : ChangeSpec := { name := "carveBlocks", fn := fun _ => fun
  | [d1, d2, d3] => { results := [.lit (.bool true)], args := [d1, d2, d3] }
  | _ => none }
def carveBlocksRow : OpenClaim := { program := "yticcafjogmjkiaa", sum := "ebabe1deca4ff511f0270562ab3b9ff20104e44d8318b0a6e7bb0fa382db320e", func := "armature/armaturelaw05.CarveBlocks", spec := "carveBlocks", unfollowed := true, recurses := true, plainKeys := false, apart := false }
def CarveBlocksSaid : Prop := carveBlocksRow.holds Try.pinned (OpenSpec.ofChange carveBlocksSpec)

/-- ITS FALSE NEIGHBOUR: 'it returns false'. Refute it at one input. -/
def carveBlocksWrong : ChangeSpec := { name := "carveBlocks", fn := fun _ => fun
  | [d1, d2, d3] => { results := [.lit (.bool false)], args := [d1, d2, d3] }
  | _ => none }
def CarveBlocksWrongFalsely : Prop := carveBlocksRow.holds Try.pinned (OpenSpec.ofChange carveBlocksWrong)

/-- 'armaturelaw05.CarveOf': WHATEVER THE INPUT: true; the input reads as it did. -/
def carveOfSpec : ChangeSpec := { name := "carveOf", fn := fun _ => fun
  | [d1, d2, d3] => { results := [.lit (.bool true)], args := [d1, d2, d3] }
  | _ => none }
def carveOfRow : OpenClaim := { program := "yticcafjogmjkiaa", sum := "ebabe1deca4ff511f0270562ab3b9ff20104e44d8318b0a6e7bb0fa382db320e", func := "armature/armaturelaw05.CarveOf", spec := "carveOf", unfollowed := true, recurses := true, plainKeys := false, apart := false }
def CarveOfSaid : Prop := carveOfRow.holds Try.pinned (OpenSpec.ofChange carveOfSpec)

/-- ITS FALSE NEIGHBOUR: 'it returns false'. Refute it at one input. -/
def carveOfWrong : ChangeSpec := { name := "carveOf", fn := fun _ => fun
  | [d1, d2, d3] => { results := [.lit (.bool false)], args := [d1, d2, d3] }
  | _ => none }
def CarveOfWrongFalsely : Prop := carveOfRow.holds Try.pinned (OpenSpec.ofChange carveOfWrong)

/-- 'armaturelaw05.CarveHulls': WHATEVER THE INPUT: true; the input reads as it did. -/
def carveHullsSpec : ChangeSpec := { name := "carveHulls", fn := fun _ => fun
  | [d] => { results := [.lit (.bool true)], args := [d] }
  | _ => none }
def carveHullsRow : OpenClaim := { program := "yticcafjogmjkiaa", sum := "ebabe1deca4ff511f0270562ab3b9ff20104e44d8318b0a6e7bb0fa382db320e", func := "armature/armaturelaw05.CarveHulls", spec := "carveHulls", unfollowed := true, recurses := true, plainKeys := false, apart := false }
def CarveHullsSaid : Prop := carveHullsRow.holds Try.pinned (OpenSpec.ofChange carveHullsSpec)

/-- ITS FALSE NEIGHBOUR: 'it returns false'. Refute it at one input. -/
def carveHullsWrong : ChangeSpec := { name := "carveHulls", fn := fun _ => fun
  | [d] => { results := [.lit (.bool false)], args := [d] }
  | _ => none }
def CarveHullsWrongFalsely : Prop := carveHullsRow.holds Try.pinned (OpenSpec.ofChange carveHullsWrong)

/-- 'armaturelaw05.CarveSets': WHATEVER THE INPUT: true; the input reads as it did. -/
def carveSetsSpec : ChangeSpec := { name := "carveSets", fn := fun _ => fun
  | [d1, d2] => { results := [.lit (.bool true)], args := [d1, d2] }
  | _ => none }
def carveSetsRow : OpenClaim := { program := "yticcafjogmjkiaa", sum := "ebabe1deca4ff511f0270562ab3b9ff20104e44d8318b0a6e7bb0fa382db320e", func := "armature/armaturelaw05.CarveSets", spec := "carveSets", unfollowed := true, recurses := true, plainKeys := false, apart := false }
def CarveSetsSaid : Prop := carveSetsRow.holds Try.pinned (OpenSpec.ofChange carveSetsSpec)

/-- ITS FALSE NEIGHBOUR: 'it returns false'. Refute it at one input. -/
def carveSetsWrong : ChangeSpec := { name := "carveSets", fn := fun _ => fun
  | [d1, d2] => { results := [.lit (.bool false)], args := [d1, d2] }
  | _ => none }
def CarveSetsWrongFalsely : Prop := carveSetsRow.holds Try.pinned (OpenSpec.ofChange carveSetsWrong)

/-- 'armaturelaw05.CarveMotions': WHATEVER THE INPUT: true; the input reads as it did. -/
def carveMotionsSpec : ChangeSpec := { name := "carveMotions", fn := fun _ => fun
  | [d1, d2, d3] => { results := [.lit (.bool true)], args := [d1, d2, d3] }
  | _ => none }
def carveMotionsRow : OpenClaim := { program := "yticcafjogmjkiaa", sum := "ebabe1deca4ff511f0270562ab3b9ff20104e44d8318b0a6e7bb0fa382db320e", func := "armature/armaturelaw05.CarveMotions", spec := "carveMotions", unfollowed := true, recurses := true, plainKeys := false, apart := false }
def CarveMotionsSaid : Prop := carveMotionsRow.holds Try.pinned (OpenSpec.ofChange carveMotionsSpec)

/-- ITS FALSE NEIGHBOUR: 'it returns false'. Refute it at one input. -/
def carveMotionsWrong : ChangeSpec := { name := "carveMotions", fn := fun _ => fun
  | [d1, d2, d3] => { results := [.lit (.bool false)], args := [d1, d2, d3] }
  | _ => none }
def CarveMotionsWrongFalsely : Prop := carveMotionsRow.holds Try.pinned (OpenSpec.ofChange carveMotionsWrong)

/-- 'armaturelaw05.CarvePieces': WHATEVER THE INPUT: true; the input reads as it did. -/
def carvePiecesSpec : ChangeSpec := { name := "carvePieces", fn := fun _ => fun
  | [d] => { results := [.lit (.bool true)], args := [d] }
  | _ => none }
def carvePiecesRow : OpenClaim := { program := "yticcafjogmjkiaa", sum := "ebabe1deca4ff511f0270562ab3b9ff20104e44d8318b0a6e7bb0fa382db320e", func := "armature/armaturelaw05.CarvePieces", spec := "carvePieces", unfollowed := true, recurses := true, plainKeys := false, apart := false }
def CarvePiecesSaid : Prop := carvePiecesRow.holds Try.pinned (OpenSpec.ofChange carvePiecesSpec)

/-- ITS FALSE NEIGHBOUR: 'it returns false'. Refute it at one input. -/
def carvePiecesWrong : ChangeSpec := { name := "carvePieces", fn := fun _ => fun
  | [d] => { results := [.lit (.bool false)], args := [d] }
  | _ => none }
def CarvePiecesWrongFalsely : Prop := carvePiecesRow.holds Try.pinned (OpenSpec.ofChange carvePiecesWrong)

/-- 'armaturelaw05.CarveFaces': WHATEVER THE INPUT: true; the input reads as it did. -/
def carveFacesSpec : ChangeSpec := { name := "carveFaces", fn := fun _ => fun
  | [d1, d2] => { results := [.lit (.bool true)], args := [d1, d2] }
  | _ => none }
def carveFacesRow : OpenClaim := { program := "yticcafjogmjkiaa", sum := "ebabe1deca4ff511f0270562ab3b9ff20104e44d8318b0a6e7bb0fa382db320e", func := "armature/armaturelaw05.CarveFaces", spec := "carveFaces", unfollowed := true, recurses := true, plainKeys := false, apart := false }
def CarveFacesSaid : Prop := carveFacesRow.holds Try.pinned (OpenSpec.ofChange carveFacesSpec)

/-- ITS FALSE NEIGHBOUR: 'it returns false'. Refute it at one input. -/
def carveFacesWrong : ChangeSpec := { name := "carveFaces", fn := fun _ => fun
  | [d1, d2] => { results := [.lit (.bool false)], args := [d1, d2] }
  | _ => none }
def CarveFacesWrongFalsely : Prop := carveFacesRow.holds Try.pinned (OpenSpec.ofChange carveFacesWrong)

/-- 'armaturelaw05.CarveGreatest': WHATEVER THE INPUT: true; the input reads as it did. -/
def carveGreatestSpec : ChangeSpec := { name := "carveGreatest", fn := fun _ => fun
  | [d1, d2] => { results := [.lit (.bool true)], args := [d1, d2] }
  | _ => none }
def carveGreatestRow : OpenClaim := { program := "yticcafjogmjkiaa", sum := "ebabe1deca4ff511f0270562ab3b9ff20104e44d8318b0a6e7bb0fa382db320e", func := "armature/armaturelaw05.CarveGreatest", spec := "carveGreatest", unfollowed := true, recurses := true, plainKeys := false, apart := false }
def CarveGreatestSaid : Prop := carveGreatestRow.holds Try.pinned (OpenSpec.ofChange carveGreatestSpec)

/-- ITS FALSE NEIGHBOUR: 'it returns false'. Refute it at one input. -/
def carveGreatestWrong : ChangeSpec := { name := "carveGreatest", fn := fun _ => fun
  | [d1, d2] => { results := [.lit (.bool false)], args := [d1, d2] }
  | _ => none }
def CarveGreatestWrongFalsely : Prop := carveGreatestRow.holds Try.pinned (OpenSpec.ofChange carveGreatestWrong)

/-- 'armaturelaw05.CarveOwn': WHATEVER THE INPUT: true; the input reads as it did. -/
def carveOwnSpec : ChangeSpec := { name := "carveOwn", fn := fun _ => fun
  | [d1, d2] => { results := [.lit (.bool true)], args := [d1, d2] }
  | _ => none }
def carveOwnRow : OpenClaim := { program := "yticcafjogmjkiaa", sum := "ebabe1deca4ff511f0270562ab3b9ff20104e44d8318b0a6e7bb0fa382db320e", func := "armature/armaturelaw05.CarveOwn", spec := "carveOwn", unfollowed := true, recurses := true, plainKeys := false, apart := false }
def CarveOwnSaid : Prop := carveOwnRow.holds Try.pinned (OpenSpec.ofChange carveOwnSpec)

/-- ITS FALSE NEIGHBOUR: 'it returns false'. Refute it at one input. -/
def carveOwnWrong : ChangeSpec := { name := "carveOwn", fn := fun _ => fun
  | [d1, d2] => { results := [.lit (.bool false)], args := [d1, d2] }
  | _ => none }
def CarveOwnWrongFalsely : Prop := carveOwnRow.holds Try.pinned (OpenSpec.ofChange carveOwnWrong)

/-- 'armaturelaw05.CarveMoved': WHATEVER THE INPUT: true; the input reads as it did. -/
def carveMovedSpec : ChangeSpec := { name := "carveMoved", fn := fun _ => fun
  | [d1, d2, d3] => { results := [.lit (.bool true)], args := [d1, d2, d3] }
  | _ => none }
def carveMovedRow : OpenClaim := { program := "yticcafjogmjkiaa", sum := "ebabe1deca4ff511f0270562ab3b9ff20104e44d8318b0a6e7bb0fa382db320e", func := "armature/armaturelaw05.CarveMoved", spec := "carveMoved", unfollowed := true, recurses := true, plainKeys := false, apart := false }
def CarveMovedSaid : Prop := carveMovedRow.holds Try.pinned (OpenSpec.ofChange carveMovedSpec)

/-- ITS FALSE NEIGHBOUR: 'it returns false'. Refute it at one input. -/
def carveMovedWrong : ChangeSpec := { name := "carveMoved", fn := fun _ => fun
  | [d1, d2, d3] => { results := [.lit (.bool false)], args := [d1, d2, d3] }
  | _ => none }
def CarveMovedWrongFalsely : Prop := carveMovedRow.holds Try.pinned (OpenSpec.ofChange carveMovedWrong)

/-- 'armaturelaw05.CarveSpares': WHATEVER THE INPUT: true; the input reads as it did. -/
def carveSparesSpec : ChangeSpec := { name := "carveSpares", fn := fun _ => fun
  | [d1, d2] => { results := [.lit (.bool true)], args := [d1, d2] }
  | _ => none }
def carveSparesRow : OpenClaim := { program := "yticcafjogmjkiaa", sum := "ebabe1deca4ff511f0270562ab3b9ff20104e44d8318b0a6e7bb0fa382db320e", func := "armature/armaturelaw05.CarveSpares", spec := "carveSpares", unfollowed := true, recurses := true, plainKeys := false, apart := false }
def CarveSparesSaid : Prop := carveSparesRow.holds Try.pinned (OpenSpec.ofChange carveSparesSpec)

/-- ITS FALSE NEIGHBOUR: 'it returns false'. Refute it at one input. -/
def carveSparesWrong : ChangeSpec := { name := "carveSpares", fn := fun _ => fun
  | [d1, d2] => { results := [.lit (.bool false)], args := [d1, d2] }
  | _ => none }
def CarveSparesWrongFalsely : Prop := carveSparesRow.holds Try.pinned (OpenSpec.ofChange carveSparesWrong)

/-- 'armaturelaw08.PestDays': WHATEVER THE INPUT: true; the input reads as it did. -/
def pestDaysSpec : ChangeSpec := { name := "pestDays", fn := fun _ => fun
  | [d1, d2, d3, d4] => { results := [.lit (.bool true)], args := [d1, d2, d3, d4] }
  | _ => none }
def pestDaysRow : OpenClaim := { program := "yticcafjogmjkiaa", sum := "ebabe1deca4ff511f0270562ab3b9ff20104e44d8318b0a6e7bb0fa382db320e", func := "armature/armaturelaw08.PestDays", spec := "pestDays", unfollowed := true, recurses := true, plainKeys := false, apart := false }
def PestDaysSaid : Prop := pestDaysRow.holds Try.pinned (OpenSpec.ofChange pestDaysSpec)

/-- ITS FALSE NEIGHBOUR: 'it returns false'. Refute it at one input. -/
def pestDaysWrong : ChangeSpec := { name := "pestDays", fn := fun _ => fun
  | [d1, d2, d3, d4] => { results := [.lit (.bool false)], args := [d1, d2, d3, d4] }
  | _ => none }
def PestDaysWrongFalsely : Prop := pestDaysRow.holds Try.pinned (OpenSpec.ofChange pestDaysWrong)

/- THE SECOND FORM. 'bulk': how many values and letters a reading holds, each counted each time it is reached (what is shared counts as often as it is met; a slice's spare places count too). A statement '..UptoSaid' is the law's where the arguments, and the package variables that the reading takes, are together of bulk at most 1048576: NARROWER than '..Said'. Prove '..Said' where nothing that the law and all that it calls make is longer than what came in: it says more and counts as full. Else prove '..UptoSaid'. A law counts once. -/
mutual
def uptoBulk {H : Type} : DataW H → Nat
  | .lit (.string bytes) => bytes.length + 1
  | .lit _ => 1
  | .nil => 1
  | .ptr d => uptoBulk d + 1
  | .slice elems spare => uptoBulkAll elems + uptoBulkAll spare + 1
  | .agg parts => uptoBulkAll parts + 1
  | .iface _ d => uptoBulk d + 1
  | .map entries => uptoBulkEntries entries + 1
  | .held _ => 1
def uptoBulkAll {H : Type} : List (DataW H) → Nat
  | [] => 0
  | d :: r => uptoBulk d + uptoBulkAll r
def uptoBulkEntries {H : Type} : List (Lit × DataW H) → Nat
  | [] => 0
  | x :: r => uptoBulkEntry x + uptoBulkEntries r
def uptoBulkEntry {H : Type} : Lit × DataW H → Nat
  | (.string bytes, d) => bytes.length + uptoBulk d + 1
  | (_, d) => uptoBulk d + 1
 end
def uptoSmall : (H : Type) → List (DataW H) → Bool := fun _ ds => decide (uptoBulkAll ds ≤ 1048576)
def OpenSpec.upto (s : _root_.Go.ChangeSpec) : _root_.Go.OpenSpec := { _root_.Go.OpenSpec.ofChange s with cond := some uptoSmall }

/-- 'armaturelaw05.CarveBlocks', WHERE WHAT IT READS IS OF BULK AT MOST 1048576: true; the input reads as it did. -/
def carveBlocksUptoRow : OpenClaim := { program := "yticcafjogmjkiaa", sum := "ebabe1deca4ff511f0270562ab3b9ff20104e44d8318b0a6e7bb0fa382db320e", func := "armature/armaturelaw05.CarveBlocks", spec := "carveBlocks", unfollowed := true, recurses := true, plainKeys := false, apart := false, narrowed := true }
def CarveBlocksUptoSaid : Prop := carveBlocksUptoRow.holds Try.pinned (OpenSpec.upto carveBlocksSpec)

/-- 'armaturelaw05.CarveOf', WHERE WHAT IT READS IS OF BULK AT MOST 1048576: true; the input reads as it did. -/
def carveOfUptoRow : OpenClaim := { program := "yticcafjogmjkiaa", sum := "ebabe1deca4ff511f0270562ab3b9ff20104e44d8318b0a6e7bb0fa382db320e", func := "armature/armaturelaw05.CarveOf", spec := "carveOf", unfollowed := true, recurses := true, plainKeys := false, apart := false, narrowed := true }
def CarveOfUptoSaid : Prop := carveOfUptoRow.holds Try.pinned (OpenSpec.upto carveOfSpec)

/-- 'armaturelaw05.CarveHulls', WHERE WHAT IT READS IS OF BULK AT MOST 1048576: true; the input reads as it did. -/
def carveHullsUptoRow : OpenClaim := { program := "yticcafjogmjkiaa", sum := "ebabe1deca4ff511f0270562ab3b9ff20104e44d8318b0a6e7bb0fa382db320e", func := "armature/armaturelaw05.CarveHulls", spec := "carveHulls", unfollowed := true, recurses := true, plainKeys := false, apart := false, narrowed := true }
def CarveHullsUptoSaid : Prop := carveHullsUptoRow.holds Try.pinned (OpenSpec.upto carveHullsSpec)

/-- 'armaturelaw05.CarveSets', WHERE WHAT IT READS IS OF BULK AT MOST 1048576: true; the input reads as it did. -/
def carveSetsUptoRow : OpenClaim := { program := "yticcafjogmjkiaa", sum := "ebabe1deca4ff511f0270562ab3b9ff20104e44d8318b0a6e7bb0fa382db320e", func := "armature/armaturelaw05.CarveSets", spec := "carveSets", unfollowed := true, recurses := true, plainKeys := false, apart := false, narrowed := true }
def CarveSetsUptoSaid : Prop := carveSetsUptoRow.holds Try.pinned (OpenSpec.upto carveSetsSpec)

/-- 'armaturelaw05.CarveMotions', WHERE WHAT IT READS IS OF BULK AT MOST 1048576: true; the input reads as it did. -/
def carveMotionsUptoRow : OpenClaim := { program := "yticcafjogmjkiaa", sum := "ebabe1deca4ff511f0270562ab3b9ff20104e44d8318b0a6e7bb0fa382db320e", func := "armature/armaturelaw05.CarveMotions", spec := "carveMotions", unfollowed := true, recurses := true, plainKeys := false, apart := false, narrowed := true }
def CarveMotionsUptoSaid : Prop := carveMotionsUptoRow.holds Try.pinned (OpenSpec.upto carveMotionsSpec)

/-- 'armaturelaw05.CarvePieces', WHERE WHAT IT READS IS OF BULK AT MOST 1048576: true; the input reads as it did. -/
def carvePiecesUptoRow : OpenClaim := { program := "yticcafjogmjkiaa", sum := "ebabe1deca4ff511f0270562ab3b9ff20104e44d8318b0a6e7bb0fa382db320e", func := "armature/armaturelaw05.CarvePieces", spec := "carvePieces", unfollowed := true, recurses := true, plainKeys := false, apart := false, narrowed := true }
def CarvePiecesUptoSaid : Prop := carvePiecesUptoRow.holds Try.pinned (OpenSpec.upto carvePiecesSpec)

/-- 'armaturelaw05.CarveFaces', WHERE WHAT IT READS IS OF BULK AT MOST 1048576: true; the input reads as it did. -/
def carveFacesUptoRow : OpenClaim := { program := "yticcafjogmjkiaa", sum := "ebabe1deca4ff511f0270562ab3b9ff20104e44d8318b0a6e7bb0fa382db320e", func := "armature/armaturelaw05.CarveFaces", spec := "carveFaces", unfollowed := true, recurses := true, plainKeys := false, apart := false, narrowed := true }
def CarveFacesUptoSaid : Prop := carveFacesUptoRow.holds Try.pinned (OpenSpec.upto carveFacesSpec)

/-- 'armaturelaw05.CarveGreatest', WHERE WHAT IT READS IS OF BULK AT MOST 1048576: true; the input reads as it did. -/
def carveGreatestUptoRow : OpenClaim := { program := "yticcafjogmjkiaa", sum := "ebabe1deca4ff511f0270562ab3b9ff20104e44d8318b0a6e7bb0fa382db320e", func := "armature/armaturelaw05.CarveGreatest", spec := "carveGreatest", unfollowed := true, recurses := true, plainKeys := false, apart := false, narrowed := true }
def CarveGreatestUptoSaid : Prop := carveGreatestUptoRow.holds Try.pinned (OpenSpec.upto carveGreatestSpec)

/-- 'armaturelaw05.CarveOwn', WHERE WHAT IT READS IS OF BULK AT MOST 1048576: true; the input reads as it did. -/
def carveOwnUptoRow : OpenClaim := { program := "yticcafjogmjkiaa", sum := "ebabe1deca4ff511f0270562ab3b9ff20104e44d8318b0a6e7bb0fa382db320e", func := "armature/armaturelaw05.CarveOwn", spec := "carveOwn", unfollowed := true, recurses := true, plainKeys := false, apart := false, narrowed := true }
def CarveOwnUptoSaid : Prop := carveOwnUptoRow.holds Try.pinned (OpenSpec.upto carveOwnSpec)

/-- 'armaturelaw05.CarveMoved', WHERE WHAT IT READS IS OF BULK AT MOST 1048576: true; the input reads as it did. -/
def carveMovedUptoRow : OpenClaim := { program := "yticcafjogmjkiaa", sum := "ebabe1deca4ff511f0270562ab3b9ff20104e44d8318b0a6e7bb0fa382db320e", func := "armature/armaturelaw05.CarveMoved", spec := "carveMoved", unfollowed := true, recurses := true, plainKeys := false, apart := false, narrowed := true }
def CarveMovedUptoSaid : Prop := carveMovedUptoRow.holds Try.pinned (OpenSpec.upto carveMovedSpec)

/-- 'armaturelaw05.CarveSpares', WHERE WHAT IT READS IS OF BULK AT MOST 1048576: true; the input reads as it did. -/
def carveSparesUptoRow : OpenClaim := { program := "yticcafjogmjkiaa", sum := "ebabe1deca4ff511f0270562ab3b9ff20104e44d8318b0a6e7bb0fa382db320e", func := "armature/armaturelaw05.CarveSpares", spec := "carveSpares", unfollowed := true, recurses := true, plainKeys := false, apart := false, narrowed := true }
def CarveSparesUptoSaid : Prop := carveSparesUptoRow.holds Try.pinned (OpenSpec.upto carveSparesSpec)

/-- 'armaturelaw08.PestDays', WHERE WHAT IT READS IS OF BULK AT MOST 1048576: true; the input reads as it did. -/
def pestDaysUptoRow : OpenClaim := { program := "yticcafjogmjkiaa", sum := "ebabe1deca4ff511f0270562ab3b9ff20104e44d8318b0a6e7bb0fa382db320e", func := "armature/armaturelaw08.PestDays", spec := "pestDays", unfollowed := true, recurses := true, plainKeys := false, apart := false, narrowed := true }
def PestDaysUptoSaid : Prop := pestDaysUptoRow.holds Try.pinned (OpenSpec.upto pestDaysSpec)

end Rows
end Go.Proofs.Yticcafjogmjkiaa
