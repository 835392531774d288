/-
  No cell of these rows narrows 'for every input' (looked for: loops, veiled, ifaces, maps, wideKeys, modest, calm, conditions, laid).
  DERIVED. THE GIVEN ROWS OF THIS SEAT. 8 by the template 'for every input the law returns true; each argument reads behind the call as it read before'; 0 by the template 'total and deterministic' (their statements: YthkamfjjfkpekaaTotals.lean).
  GIVEN WITH THE SEED: the statements are not yours to turn. If you find one false, say at which input.
  Laid BY PROGRAM, IN A SANDBOX (cutbox-rows.mjs): the forced cells as the released guide's own fill.sh prints them over the translation 5822995aca080999… (all of the seat's roots in one cut). By AI agents, Wed Nov 11 2026. No macro, syntax, notation, axiom, sorry.
-/
import Derived.Test.YthkamfjjfkpekaaChecked
import GoSem.Claim
import GoSem.ClaimJoined
import GoSem.ClaimMapViews
import Derived.JoinedTies
import Derived.KernelRfl
namespace Go.Proofs.Ythkamfjjfkpekaa
/- THE CELL 'sum', in the pinned program and in every row, IS THE sha256 OF THE DUMP (.gsa) THAT YthkamfjjfkpekaaProg.lean LOADS. Nothing in Lean hashes anything: it is a label: what it is worth is what the hold of that sum in a sandbox is worth. -/
noncomputable def Try.pinned : Pinned := { name := "ythkamfjjfkpekaa", sum := "5822995aca080999537ef89c354f53f74b08e250a61a2a91ec80e2a6183fff0a", checked := Try.checked }
namespace Rows
def none {H : Type} : Left H := { results := [], args := [] }

/-- 'armaturelaw08.PestDays': WHATEVER THE INPUT: true; the input reads as it did. -/
def pestDaysSpec : ChangeSpec := { name := "pestDays", fn := fun _ => fun
  | [d1, d2, d3, d4] => { results := [.lit (.bool true)], args := [d1, d2, d3, d4] }
  | _ => none }
def pestDaysRow : OpenClaim := { program := "ythkamfjjfkpekaa", sum := "5822995aca080999537ef89c354f53f74b08e250a61a2a91ec80e2a6183fff0a", func := "armature/armaturelaw08.PestDays", spec := "pestDays", unfollowed := true, recurses := true, apart := false }
def PestDaysSaid : Prop := pestDaysRow.holds Try.pinned (OpenSpec.ofChange pestDaysSpec)

/-- ITS FALSE NEIGHBOUR: 'it returns false'. Refute it at one input. -/
def pestDaysWrong : ChangeSpec := { name := "pestDays", fn := fun _ => fun
  | [d1, d2, d3, d4] => { results := [.lit (.bool false)], args := [d1, d2, d3, d4] }
  | _ => none }
def PestDaysWrongFalsely : Prop := pestDaysRow.holds Try.pinned (OpenSpec.ofChange pestDaysWrong)

/-- 'armaturelaw08.PestNever': WHATEVER THE INPUT: true; the input reads as it did. -/
def pestNeverSpec : ChangeSpec := { name := "pestNever", fn := fun _ => fun
  | [d1, d2, d3, d4, d5] => { results := [.lit (.bool true)], args := [d1, d2, d3, d4, d5] }
  | _ => none }
def pestNeverRow : OpenClaim := { program := "ythkamfjjfkpekaa", sum := "5822995aca080999537ef89c354f53f74b08e250a61a2a91ec80e2a6183fff0a", func := "armature/armaturelaw08.PestNever", spec := "pestNever", unfollowed := true, recurses := true, apart := false }
def PestNeverSaid : Prop := pestNeverRow.holds Try.pinned (OpenSpec.ofChange pestNeverSpec)

/-- ITS FALSE NEIGHBOUR: 'it returns false'. Refute it at one input. -/
def pestNeverWrong : ChangeSpec := { name := "pestNever", fn := fun _ => fun
  | [d1, d2, d3, d4, d5] => { results := [.lit (.bool false)], args := [d1, d2, d3, d4, d5] }
  | _ => none }
def PestNeverWrongFalsely : Prop := pestNeverRow.holds Try.pinned (OpenSpec.ofChange pestNeverWrong)

/-- 'armaturelaw08.PestCuts': WHATEVER THE INPUT: true; the input reads as it did. -/
def pestCutsSpec : ChangeSpec := { name := "pestCuts", fn := fun _ => fun
  | [d1, d2, d3] => { results := [.lit (.bool true)], args := [d1, d2, d3] }
  | _ => none }
def pestCutsRow : OpenClaim := { program := "ythkamfjjfkpekaa", sum := "5822995aca080999537ef89c354f53f74b08e250a61a2a91ec80e2a6183fff0a", func := "armature/armaturelaw08.PestCuts", spec := "pestCuts", unfollowed := true, recurses := true, apart := false }
def PestCutsSaid : Prop := pestCutsRow.holds Try.pinned (OpenSpec.ofChange pestCutsSpec)

/-- ITS FALSE NEIGHBOUR: 'it returns false'. Refute it at one input. -/
def pestCutsWrong : ChangeSpec := { name := "pestCuts", fn := fun _ => fun
  | [d1, d2, d3] => { results := [.lit (.bool false)], args := [d1, d2, d3] }
  | _ => none }
def PestCutsWrongFalsely : Prop := pestCutsRow.holds Try.pinned (OpenSpec.ofChange pestCutsWrong)

/-- 'armaturelaw08.PestCheapest': WHATEVER THE INPUT: true; the input reads as it did. -/
def pestCheapestSpec : ChangeSpec := { name := "pestCheapest", fn := fun _ => fun
  | [d] => { results := [.lit (.bool true)], args := [d] }
  | _ => none }
def pestCheapestRow : OpenClaim := { program := "ythkamfjjfkpekaa", sum := "5822995aca080999537ef89c354f53f74b08e250a61a2a91ec80e2a6183fff0a", func := "armature/armaturelaw08.PestCheapest", spec := "pestCheapest", unfollowed := true, recurses := true, apart := false }
def PestCheapestSaid : Prop := pestCheapestRow.holds Try.pinned (OpenSpec.ofChange pestCheapestSpec)

/-- ITS FALSE NEIGHBOUR: 'it returns false'. Refute it at one input. -/
def pestCheapestWrong : ChangeSpec := { name := "pestCheapest", fn := fun _ => fun
  | [d] => { results := [.lit (.bool false)], args := [d] }
  | _ => none }
def PestCheapestWrongFalsely : Prop := pestCheapestRow.holds Try.pinned (OpenSpec.ofChange pestCheapestWrong)

/-- 'armaturelaw08.PestLeast': WHATEVER THE INPUT: true; the input reads as it did. -/
def pestLeastSpec : ChangeSpec := { name := "pestLeast", fn := fun _ => fun
  | [d1, d2] => { results := [.lit (.bool true)], args := [d1, d2] }
  | _ => none }
def pestLeastRow : OpenClaim := { program := "ythkamfjjfkpekaa", sum := "5822995aca080999537ef89c354f53f74b08e250a61a2a91ec80e2a6183fff0a", func := "armature/armaturelaw08.PestLeast", spec := "pestLeast", unfollowed := true, recurses := true, apart := false }
def PestLeastSaid : Prop := pestLeastRow.holds Try.pinned (OpenSpec.ofChange pestLeastSpec)

/-- ITS FALSE NEIGHBOUR: 'it returns false'. Refute it at one input. -/
def pestLeastWrong : ChangeSpec := { name := "pestLeast", fn := fun _ => fun
  | [d1, d2] => { results := [.lit (.bool false)], args := [d1, d2] }
  | _ => none }
def PestLeastWrongFalsely : Prop := pestLeastRow.holds Try.pinned (OpenSpec.ofChange pestLeastWrong)

/-- 'armaturelaw08.PestNeeded': WHATEVER THE INPUT: true; the input reads as it did. -/
def pestNeededSpec : ChangeSpec := { name := "pestNeeded", fn := fun _ => fun
  | [d] => { results := [.lit (.bool true)], args := [d] }
  | _ => none }
def pestNeededRow : OpenClaim := { program := "ythkamfjjfkpekaa", sum := "5822995aca080999537ef89c354f53f74b08e250a61a2a91ec80e2a6183fff0a", func := "armature/armaturelaw08.PestNeeded", spec := "pestNeeded", unfollowed := true, recurses := true, apart := false }
def PestNeededSaid : Prop := pestNeededRow.holds Try.pinned (OpenSpec.ofChange pestNeededSpec)

/-- ITS FALSE NEIGHBOUR: 'it returns false'. Refute it at one input. -/
def pestNeededWrong : ChangeSpec := { name := "pestNeeded", fn := fun _ => fun
  | [d] => { results := [.lit (.bool false)], args := [d] }
  | _ => none }
def PestNeededWrongFalsely : Prop := pestNeededRow.holds Try.pinned (OpenSpec.ofChange pestNeededWrong)

/-- 'armaturelaw08.PestTraps': WHATEVER THE INPUT: true; the input reads as it did. -/
def pestTrapsSpec : ChangeSpec := { name := "pestTraps", fn := fun _ => fun
  | [d1, d2, d3, d4] => { results := [.lit (.bool true)], args := [d1, d2, d3, d4] }
  | _ => none }
def pestTrapsRow : OpenClaim := { program := "ythkamfjjfkpekaa", sum := "5822995aca080999537ef89c354f53f74b08e250a61a2a91ec80e2a6183fff0a", func := "armature/armaturelaw08.PestTraps", spec := "pestTraps", unfollowed := true, recurses := true, apart := false }
def PestTrapsSaid : Prop := pestTrapsRow.holds Try.pinned (OpenSpec.ofChange pestTrapsSpec)

/-- ITS FALSE NEIGHBOUR: 'it returns false'. Refute it at one input. -/
def pestTrapsWrong : ChangeSpec := { name := "pestTraps", fn := fun _ => fun
  | [d1, d2, d3, d4] => { results := [.lit (.bool false)], args := [d1, d2, d3, d4] }
  | _ => none }
def PestTrapsWrongFalsely : Prop := pestTrapsRow.holds Try.pinned (OpenSpec.ofChange pestTrapsWrong)

/-- 'armaturelaw08.PestTouches': WHATEVER THE INPUT: true; the input reads as it did. -/
def pestTouchesSpec : ChangeSpec := { name := "pestTouches", fn := fun _ => fun
  | [d1, d2, d3, d4] => { results := [.lit (.bool true)], args := [d1, d2, d3, d4] }
  | _ => none }
def pestTouchesRow : OpenClaim := { program := "ythkamfjjfkpekaa", sum := "5822995aca080999537ef89c354f53f74b08e250a61a2a91ec80e2a6183fff0a", func := "armature/armaturelaw08.PestTouches", spec := "pestTouches", unfollowed := true, recurses := true, apart := false }
def PestTouchesSaid : Prop := pestTouchesRow.holds Try.pinned (OpenSpec.ofChange pestTouchesSpec)

/-- ITS FALSE NEIGHBOUR: 'it returns false'. Refute it at one input. -/
def pestTouchesWrong : ChangeSpec := { name := "pestTouches", fn := fun _ => fun
  | [d1, d2, d3, d4] => { results := [.lit (.bool false)], args := [d1, d2, d3, d4] }
  | _ => none }
def PestTouchesWrongFalsely : Prop := pestTouchesRow.holds Try.pinned (OpenSpec.ofChange pestTouchesWrong)

/- THE SECOND FORM. 'bulk': how many values and letters a reading holds, each counted each time it is reached (what is shared counts as often as it is met; a slice's spare places count too). A statement '..UptoSaid' is the law's where the arguments, and the package variables that the reading takes, are together of bulk at most 1048576: NARROWER than '..Said'. Prove '..Said' where nothing that the law and all that it calls make is longer than what came in: it says more and counts as full. Else prove '..UptoSaid'. A law counts once. -/
mutual
def uptoBulk {H : Type} : DataW H → Nat
  | .lit (.string bytes) => bytes.length + 1
  | .lit _ => 1
  | .nil => 1
  | .ptr d => uptoBulk d + 1
  | .slice elems spare => uptoBulkAll elems + uptoBulkAll spare + 1
  | .agg parts => uptoBulkAll parts + 1
  | .iface _ d => uptoBulk d + 1
  | .map entries => uptoBulkEntries entries + 1
  | .held _ => 1
def uptoBulkAll {H : Type} : List (DataW H) → Nat
  | [] => 0
  | d :: r => uptoBulk d + uptoBulkAll r
def uptoBulkEntries {H : Type} : List (Lit × DataW H) → Nat
  | [] => 0
  | x :: r => uptoBulkEntry x + uptoBulkEntries r
def uptoBulkEntry {H : Type} : Lit × DataW H → Nat
  | (.string bytes, d) => bytes.length + uptoBulk d + 1
  | (_, d) => uptoBulk d + 1
 end
def uptoSmall : (H : Type) → List (DataW H) → Bool := fun _ ds => decide (uptoBulkAll ds ≤ 1048576)
def OpenSpec.upto (s : _root_.Go.ChangeSpec) : _root_.Go.OpenSpec := { _root_.Go.OpenSpec.ofChange s with cond := some uptoSmall }

/-- 'armaturelaw08.PestDays', WHERE WHAT IT READS IS OF BULK AT MOST 1048576: true; the input reads as it did. -/
def pestDaysUptoRow : OpenClaim := { program := "ythkamfjjfkpekaa", sum := "5822995aca080999537ef89c354f53f74b08e250a61a2a91ec80e2a6183fff0a", func := "armature/armaturelaw08.PestDays", spec := "pestDays", unfollowed := true, recurses := true, apart := false, narrowed := true }
def PestDaysUptoSaid : Prop := pestDaysUptoRow.holds Try.pinned (OpenSpec.upto pestDaysSpec)

/-- 'armaturelaw08.PestNever', WHERE WHAT IT READS IS OF BULK AT MOST 1048576: true; the input reads as it did. -/
def pestNeverUptoRow : OpenClaim := { program := "ythkamfjjfkpekaa", sum := "5822995aca080999537ef89c354f53f74b08e250a61a2a91ec80e2a6183fff0a", func := "armature/armaturelaw08.PestNever", spec := "pestNever", unfollowed := true, recurses := true, apart := false, narrowed := true }
def PestNeverUptoSaid : Prop := pestNeverUptoRow.holds Try.pinned (OpenSpec.upto pestNeverSpec)

/-- 'armaturelaw08.PestCuts', WHERE WHAT IT READS IS OF BULK AT MOST 1048576: true; the input reads as it did. -/
def pestCutsUptoRow : OpenClaim := { program := "ythkamfjjfkpekaa", sum := "5822995aca080999537ef89c354f53f74b08e250a61a2a91ec80e2a6183fff0a", func := "armature/armaturelaw08.PestCuts", spec := "pestCuts", unfollowed := true, recurses := true, apart := false, narrowed := true }
def PestCutsUptoSaid : Prop := pestCutsUptoRow.holds Try.pinned (OpenSpec.upto pestCutsSpec)

/-- 'armaturelaw08.PestCheapest', WHERE WHAT IT READS IS OF BULK AT MOST 1048576: true; the input reads as it did. -/
def pestCheapestUptoRow : OpenClaim := { program := "ythkamfjjfkpekaa", sum := "5822995aca080999537ef89c354f53f74b08e250a61a2a91ec80e2a6183fff0a", func := "armature/armaturelaw08.PestCheapest", spec := "pestCheapest", unfollowed := true, recurses := true, apart := false, narrowed := true }
def PestCheapestUptoSaid : Prop := pestCheapestUptoRow.holds Try.pinned (OpenSpec.upto pestCheapestSpec)

/-- 'armaturelaw08.PestLeast', WHERE WHAT IT READS IS OF BULK AT MOST 1048576: true; the input reads as it did. -/
def pestLeastUptoRow : OpenClaim := { program := "ythkamfjjfkpekaa", sum := "5822995aca080999537ef89c354f53f74b08e250a61a2a91ec80e2a6183fff0a", func := "armature/armaturelaw08.PestLeast", spec := "pestLeast", unfollowed := true, recurses := true, apart := false, narrowed := true }
def PestLeastUptoSaid : Prop := pestLeastUptoRow.holds Try.pinned (OpenSpec.upto pestLeastSpec)

/-- 'armaturelaw08.PestNeeded', WHERE WHAT IT READS IS OF BULK AT MOST 1048576: true; the input reads as it did. -/
def pestNeededUptoRow : OpenClaim := { program := "ythkamfjjfkpekaa", sum := "5822995aca080999537ef89c354f53f74b08e250a61a2a91ec80e2a6183fff0a", func := "armature/armaturelaw08.PestNeeded", spec := "pestNeeded", unfollowed := true, recurses := true, apart := false, narrowed := true }
def PestNeededUptoSaid : Prop := pestNeededUptoRow.holds Try.pinned (OpenSpec.upto pestNeededSpec)

/-- 'armaturelaw08.PestTraps', WHERE WHAT IT READS IS OF BULK AT MOST 1048576: true; the input reads as it did. -/
def pestTrapsUptoRow : OpenClaim := { program := "ythkamfjjfkpekaa", sum := "5822995aca080999537ef89c354f53f74b08e250a61a2a91ec80e2a6183fff0a", func := "armature/armaturelaw08.PestTraps", spec := "pestTraps", unfollowed := true, recurses := true, apart := false, narrowed := true }
def PestTrapsUptoSaid : Prop := pestTrapsUptoRow.holds Try.pinned (OpenSpec.upto pestTrapsSpec)

/-- 'armaturelaw08.PestTouches', WHERE WHAT IT READS IS OF BULK AT MOST 1048576: true; the input reads as it did. -/
def pestTouchesUptoRow : OpenClaim := { program := "ythkamfjjfkpekaa", sum := "5822995aca080999537ef89c354f53f74b08e250a61a2a91ec80e2a6183fff0a", func := "armature/armaturelaw08.PestTouches", spec := "pestTouches", unfollowed := true, recurses := true, apart := false, narrowed := true }
def PestTouchesUptoSaid : Prop := pestTouchesUptoRow.holds Try.pinned (OpenSpec.upto pestTouchesSpec)

end Rows
end Go.Proofs.Ythkamfjjfkpekaa
