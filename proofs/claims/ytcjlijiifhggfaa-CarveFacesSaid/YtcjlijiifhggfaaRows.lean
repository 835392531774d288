/-
  No cell of these rows narrows 'for every input' (looked for: loops, veiled, ifaces, maps, wideKeys, modest, calm, conditions, laid).
  DERIVED. THE GIVEN ROWS OF THIS SEAT. 4 by the template 'for every input the law returns true; each argument reads behind the call as it read before'; 0 by the template 'total and deterministic' (their statements: YtcjlijiifhggfaaTotals.lean).
  GIVEN WITH THE SEED: the statements are not yours to turn. If you find one false, say at which input.
  Laid BY PROGRAM, IN A SANDBOX (cutbox-rows.mjs): the forced cells as the released guide's own fill.sh prints them over the translation 87917df3b4f295c3… (all of the seat's roots in one cut). By AI agents, Wed Nov 11 2026. No macro, syntax, notation, axiom, sorry.
-/
import Derived.Test.YtcjlijiifhggfaaChecked
import GoSem.Claim
import GoSem.ClaimJoined
import GoSem.ClaimMapViews
import Derived.JoinedTies
import Derived.KernelRfl
namespace Go.Proofs.Ytcjlijiifhggfaa
/- THE CELL 'sum', in the pinned program and in every row, IS THE sha256 OF THE DUMP (.gsa) THAT YtcjlijiifhggfaaProg.lean LOADS. Nothing in Lean hashes anything: it is a label: what it is worth is what the hold of that sum in a sandbox is worth. -/
noncomputable def Try.pinned : Pinned := { name := "ytcjlijiifhggfaa", sum := "87917df3b4f295c3b1cc4d1ab95e36f7db30bb60226090201a4a2bd0551a570f", checked := Try.checked }
namespace Rows
def none {H : Type} : Left H := { results := [], args := [] }

/-- 'armaturelaw05.CarvePieces': WHATEVER THE INPUT: true; the input reads as it did. -/
def carvePiecesSpec : ChangeSpec := { name := "carvePieces", fn := fun _ => fun
  | [d] => { results := [.lit (.bool true)], args := [d] }
  | _ => none }
def carvePiecesRow : OpenClaim := { program := "ytcjlijiifhggfaa", sum := "87917df3b4f295c3b1cc4d1ab95e36f7db30bb60226090201a4a2bd0551a570f", func := "armature/armaturelaw05.CarvePieces", spec := "carvePieces", unfollowed := true, recurses := true, plainKeys := false, apart := false }
def CarvePiecesSaid : Prop := carvePiecesRow.holds Try.pinned (OpenSpec.ofChange carvePiecesSpec)

/-- ITS FALSE NEIGHBOUR: 'it returns false'. Refute it at one input. -/
def carvePiecesWrong : ChangeSpec := { name := "carvePieces", fn := fun _ => fun
  | [d] => { results := [.lit (.bool false)], args := [d] }
  | _ => none }
def CarvePiecesWrongFalsely : Prop := carvePiecesRow.holds Try.pinned (OpenSpec.ofChange carvePiecesWrong)

/-- 'armaturelaw05.CarveFaces': WHATEVER THE INPUT: true; the input reads as it did. -/
def carveFacesSpec : ChangeSpec := { name := "carveFaces", fn := fun _ => fun
  | [d1, d2] => { results := [.lit (.bool true)], args := [d1, d2] }
  | _ => none }
def carveFacesRow : OpenClaim := { program := "ytcjlijiifhggfaa", sum := "87917df3b4f295c3b1cc4d1ab95e36f7db30bb60226090201a4a2bd0551a570f", func := "armature/armaturelaw05.CarveFaces", spec := "carveFaces", unfollowed := true, recurses := true, plainKeys := false, apart := false }
def CarveFacesSaid : Prop := carveFacesRow.holds Try.pinned (OpenSpec.ofChange carveFacesSpec)

/-- ITS FALSE NEIGHBOUR: 'it returns false'. Refute it at one input. -/
def carveFacesWrong : ChangeSpec := { name := "carveFaces", fn := fun _ => fun
  | [d1, d2] => { results := [.lit (.bool false)], args := [d1, d2] }
  | _ => none }
def CarveFacesWrongFalsely : Prop := carveFacesRow.holds Try.pinned (OpenSpec.ofChange carveFacesWrong)

/-- 'armaturelaw05.CarveMoved': WHATEVER THE INPUT: true; the input reads as it did. -/
def carveMovedSpec : ChangeSpec := { name := "carveMoved", fn := fun _ => fun
  | [d1, d2, d3] => { results := [.lit (.bool true)], args := [d1, d2, d3] }
  | _ => none }
def carveMovedRow : OpenClaim := { program := "ytcjlijiifhggfaa", sum := "87917df3b4f295c3b1cc4d1ab95e36f7db30bb60226090201a4a2bd0551a570f", func := "armature/armaturelaw05.CarveMoved", spec := "carveMoved", unfollowed := true, recurses := true, plainKeys := false, apart := false }
def CarveMovedSaid : Prop := carveMovedRow.holds Try.pinned (OpenSpec.ofChange carveMovedSpec)

/-- ITS FALSE NEIGHBOUR: 'it returns false'. Refute it at one input. -/
def carveMovedWrong : ChangeSpec := { name := "carveMoved", fn := fun _ => fun
  | [d1, d2, d3] => { results := [.lit (.bool false)], args := [d1, d2, d3] }
  | _ => none }
def CarveMovedWrongFalsely : Prop := carveMovedRow.holds Try.pinned (OpenSpec.ofChange carveMovedWrong)

/-- 'armaturelaw05.CarveSpares': WHATEVER THE INPUT: true; the input reads as it did. -/
def carveSparesSpec : ChangeSpec := { name := "carveSpares", fn := fun _ => fun
  | [d1, d2] => { results := [.lit (.bool true)], args := [d1, d2] }
  | _ => none }
def carveSparesRow : OpenClaim := { program := "ytcjlijiifhggfaa", sum := "87917df3b4f295c3b1cc4d1ab95e36f7db30bb60226090201a4a2bd0551a570f", func := "armature/armaturelaw05.CarveSpares", spec := "carveSpares", unfollowed := true, recurses := true, plainKeys := false, apart := false }
def CarveSparesSaid : Prop := carveSparesRow.holds Try.pinned (OpenSpec.ofChange carveSparesSpec)

/-- ITS FALSE NEIGHBOUR: 'it returns false'. Refute it at one input. -/
def carveSparesWrong : ChangeSpec := { name := "carveSpares", fn := fun _ => fun
  | [d1, d2] => { results := [.lit (.bool false)], args := [d1, d2] }
  | _ => none }
def CarveSparesWrongFalsely : Prop := carveSparesRow.holds Try.pinned (OpenSpec.ofChange carveSparesWrong)

/- THE SECOND FORM. 'bulk': how many values and letters a reading holds, each counted each time it is reached (what is shared counts as often as it is met; a slice's spare places count too). A statement '..UptoSaid' is the law's where the arguments, and the package variables that the reading takes, are together of bulk at most 1048576: NARROWER than '..Said'. Prove '..Said' where nothing that the law and all that it calls make is longer than what came in: it says more and counts as full. Else prove '..UptoSaid'. A law counts once. -/
mutual
def uptoBulk {H : Type} : DataW H → Nat
  | .lit (.string bytes) => bytes.length + 1
  | .lit _ => 1
  | .nil => 1
  | .ptr d => uptoBulk d + 1
  | .slice elems spare => uptoBulkAll elems + uptoBulkAll spare + 1
  | .agg parts => uptoBulkAll parts + 1
  | .iface _ d => uptoBulk d + 1
  | .map entries => uptoBulkEntries entries + 1
  | .held _ => 1
def uptoBulkAll {H : Type} : List (DataW H) → Nat
  | [] => 0
  | d :: r => uptoBulk d + uptoBulkAll r
def uptoBulkEntries {H : Type} : List (Lit × DataW H) → Nat
  | [] => 0
  | x :: r => uptoBulkEntry x + uptoBulkEntries r
def uptoBulkEntry {H : Type} : Lit × DataW H → Nat
  | (.string bytes, d) => bytes.length + uptoBulk d + 1
  | (_, d) => uptoBulk d + 1
 end
def uptoSmall : (H : Type) → List (DataW H) → Bool := fun _ ds => decide (uptoBulkAll ds ≤ 1048576)
def OpenSpec.upto (s : _root_.Go.ChangeSpec) : _root_.Go.OpenSpec := { _root_.Go.OpenSpec.ofChange s with cond := some uptoSmall }

/-- 'armaturelaw05.CarvePieces', WHERE WHAT IT READS IS OF BULK AT MOST 1048576: true; the input reads as it did. -/
def carvePiecesUptoRow : OpenClaim := { program := "ytcjlijiifhggfaa", sum := "87917df3b4f295c3b1cc4d1ab95e36f7db30bb60226090201a4a2bd0551a570f", func := "armature/armaturelaw05.CarvePieces", spec := "carvePieces", unfollowed := true, recurses := true, plainKeys := false, apart := false, narrowed := true }
def CarvePiecesUptoSaid : Prop := carvePiecesUptoRow.holds Try.pinned (OpenSpec.upto carvePiecesSpec)

/-- 'armaturelaw05.CarveFaces', WHERE WHAT IT READS IS OF BULK AT MOST 1048576: true; the input reads as it did. -/
def carveFacesUptoRow : OpenClaim := { program := "ytcjlijiifhggfaa", sum := "87917df3b4f295c3b1cc4d1ab95e36f7db30bb60226090201a4a2bd0551a570f", func := "armature/armaturelaw05.CarveFaces", spec := "carveFaces", unfollowed := true, recurses := true, plainKeys := false, apart := false, narrowed := true }
def CarveFacesUptoSaid : Prop := carveFacesUptoRow.holds Try.pinned (OpenSpec.upto carveFacesSpec)

/-- 'armaturelaw05.CarveMoved', WHERE WHAT IT READS IS OF BULK AT MOST 1048576: true; the input reads as it did. -/
def carveMovedUptoRow : OpenClaim := { program := "ytcjlijiifhggfaa", sum := "87917df3b4f295c3b1cc4d1ab95e36f7db30bb60226090201a4a2bd0551a570f", func := "armature/armaturelaw05.CarveMoved", spec := "carveMoved", unfollowed := true, recurses := true, plainKeys := false, apart := false, narrowed := true }
def CarveMovedUptoSaid : Prop := carveMovedUptoRow.holds Try.pinned (OpenSpec.upto carveMovedSpec)

/-- 'armaturelaw05.CarveSpares', WHERE WHAT IT READS IS OF BULK AT MOST 1048576: true; the input reads as it did. -/
def carveSparesUptoRow : OpenClaim := { program := "ytcjlijiifhggfaa", sum := "87917df3b4f295c3b1cc4d1ab95e36f7db30bb60226090201a4a2bd0551a570f", func := "armature/armaturelaw05.CarveSpares", spec := "carveSpares", unfollowed := true, recurses := true, plainKeys := false, apart := false, narrowed := true }
def CarveSparesUptoSaid : Prop := carveSparesUptoRow.holds Try.pinned (OpenSpec.upto carveSparesSpec)

end Rows
end Go.Proofs.Ytcjlijiifhggfaa
