/-
  No cell of these rows narrows 'for every input' (looked for: loops, veiled, ifaces, maps, wideKeys, modest, calm, conditions, laid).
  DERIVED. THE GIVEN ROWS OF THIS SEAT. 11 by the template 'for every input the law returns true; each argument reads behind the call as it read before'; 0 by the template 'total and deterministic' (their statements: YtakldbpfdoeimaaTotals.lean).
  GIVEN WITH THE SEED: the statements are not yours to turn. If you find one false, say at which input.
  Laid BY PROGRAM, IN A SANDBOX (cutbox-rows.mjs): the forced cells as the released guide's own fill.sh prints them over the translation dffb4d948d14016c… (all of the seat's roots in one cut). By AI agents, Wed Nov 11 2026. No macro, syntax, notation, axiom, sorry.
-/
import Derived.Test.YtakldbpfdoeimaaChecked
import GoSem.Claim
import GoSem.ClaimJoined
import GoSem.ClaimMapViews
import Derived.JoinedTies
import Derived.KernelRfl
namespace Go.Proofs.Ytakldbpfdoeimaa
/- THE CELL 'sum', in the pinned program and in every row, IS THE sha256 OF THE DUMP (.gsa) THAT YtakldbpfdoeimaaProg.lean LOADS. Nothing in Lean hashes anything: it is a label: what it is worth is what the hold of that sum in a sandbox is worth. -/
noncomputable def Try.pinned : Pinned := { name := "ytakldbpfdoeimaa", sum := "dffb4d948d14016c47972c8b1f4cd750a59030dfdc8a55b42973232944d1b6d3", checked := Try.checked }
namespace Rows
def none {H : Type} : Left H := { results := [], args := [] }

/-- 'armaturelaw03.BathValid': WHATEVER THE INPUT: true; the input reads as it did. -/
def bathValidSpec : ChangeSpec := { name := "bathValid", fn := fun _ => fun
  | [d1, d2] => { results := [.lit (.bool true)], args := [d1, d2] }
  | _ => none }
def bathValidRow : OpenClaim := { program := "ytakldbpfdoeimaa", sum := "dffb4d948d14016c47972c8b1f4cd750a59030dfdc8a55b42973232944d1b6d3", func := "armature/armaturelaw03.BathValid", spec := "bathValid", apart := false }
def BathValidSaid : Prop := bathValidRow.holds Try.pinned (OpenSpec.ofChange bathValidSpec)

/-- ITS FALSE NEIGHBOUR: 'it returns false'. Refute it at one input. -/
def bathValidWrong : ChangeSpec := { name := "bathValid", fn := fun _ => fun
  | [d1, d2] => { results := [.lit (.bool false)], args := [d1, d2] }
  | _ => none }
def BathValidWrongFalsely : Prop := bathValidRow.holds Try.pinned (OpenSpec.ofChange bathValidWrong)

/-- 'armaturelaw03.BathHours': WHATEVER THE INPUT: true; the input reads as it did. -/
def bathHoursSpec : ChangeSpec := { name := "bathHours", fn := fun _ => fun
  | [d] => { results := [.lit (.bool true)], args := [d] }
  | _ => none }
def bathHoursRow : OpenClaim := { program := "ytakldbpfdoeimaa", sum := "dffb4d948d14016c47972c8b1f4cd750a59030dfdc8a55b42973232944d1b6d3", func := "armature/armaturelaw03.BathHours", spec := "bathHours", apart := false }
def BathHoursSaid : Prop := bathHoursRow.holds Try.pinned (OpenSpec.ofChange bathHoursSpec)

/-- ITS FALSE NEIGHBOUR: 'it returns false'. Refute it at one input. -/
def bathHoursWrong : ChangeSpec := { name := "bathHours", fn := fun _ => fun
  | [d] => { results := [.lit (.bool false)], args := [d] }
  | _ => none }
def BathHoursWrongFalsely : Prop := bathHoursRow.holds Try.pinned (OpenSpec.ofChange bathHoursWrong)

/-- 'armaturelaw03.BathRuns': WHATEVER THE INPUT: true; the input reads as it did. -/
def bathRunsSpec : ChangeSpec := { name := "bathRuns", fn := fun _ => fun
  | [d1, d2] => { results := [.lit (.bool true)], args := [d1, d2] }
  | _ => none }
def bathRunsRow : OpenClaim := { program := "ytakldbpfdoeimaa", sum := "dffb4d948d14016c47972c8b1f4cd750a59030dfdc8a55b42973232944d1b6d3", func := "armature/armaturelaw03.BathRuns", spec := "bathRuns", unfollowed := true, recurses := true, apart := false }
def BathRunsSaid : Prop := bathRunsRow.holds Try.pinned (OpenSpec.ofChange bathRunsSpec)

/-- ITS FALSE NEIGHBOUR: 'it returns false'. Refute it at one input. -/
def bathRunsWrong : ChangeSpec := { name := "bathRuns", fn := fun _ => fun
  | [d1, d2] => { results := [.lit (.bool false)], args := [d1, d2] }
  | _ => none }
def BathRunsWrongFalsely : Prop := bathRunsRow.holds Try.pinned (OpenSpec.ofChange bathRunsWrong)

/-- 'armaturelaw03.BathSums': WHATEVER THE INPUT: true; the input reads as it did. -/
def bathSumsSpec : ChangeSpec := { name := "bathSums", fn := fun _ => fun
  | [d1, d2] => { results := [.lit (.bool true)], args := [d1, d2] }
  | _ => none }
def bathSumsRow : OpenClaim := { program := "ytakldbpfdoeimaa", sum := "dffb4d948d14016c47972c8b1f4cd750a59030dfdc8a55b42973232944d1b6d3", func := "armature/armaturelaw03.BathSums", spec := "bathSums", apart := false }
def BathSumsSaid : Prop := bathSumsRow.holds Try.pinned (OpenSpec.ofChange bathSumsSpec)

/-- ITS FALSE NEIGHBOUR: 'it returns false'. Refute it at one input. -/
def bathSumsWrong : ChangeSpec := { name := "bathSums", fn := fun _ => fun
  | [d1, d2] => { results := [.lit (.bool false)], args := [d1, d2] }
  | _ => none }
def BathSumsWrongFalsely : Prop := bathSumsRow.holds Try.pinned (OpenSpec.ofChange bathSumsWrong)

/-- 'armaturelaw03.BathWaits': WHATEVER THE INPUT: true; the input reads as it did. -/
def bathWaitsSpec : ChangeSpec := { name := "bathWaits", fn := fun _ => fun
  | [d1, d2, d3] => { results := [.lit (.bool true)], args := [d1, d2, d3] }
  | _ => none }
def bathWaitsRow : OpenClaim := { program := "ytakldbpfdoeimaa", sum := "dffb4d948d14016c47972c8b1f4cd750a59030dfdc8a55b42973232944d1b6d3", func := "armature/armaturelaw03.BathWaits", spec := "bathWaits", unfollowed := true, recurses := true, apart := false }
def BathWaitsSaid : Prop := bathWaitsRow.holds Try.pinned (OpenSpec.ofChange bathWaitsSpec)

/-- ITS FALSE NEIGHBOUR: 'it returns false'. Refute it at one input. -/
def bathWaitsWrong : ChangeSpec := { name := "bathWaits", fn := fun _ => fun
  | [d1, d2, d3] => { results := [.lit (.bool false)], args := [d1, d2, d3] }
  | _ => none }
def BathWaitsWrongFalsely : Prop := bathWaitsRow.holds Try.pinned (OpenSpec.ofChange bathWaitsWrong)

/-- 'armaturelaw03.BathStrengths': WHATEVER THE INPUT: true; the input reads as it did. -/
def bathStrengthsSpec : ChangeSpec := { name := "bathStrengths", fn := fun _ => fun
  | [d1, d2, d3] => { results := [.lit (.bool true)], args := [d1, d2, d3] }
  | _ => none }
def bathStrengthsRow : OpenClaim := { program := "ytakldbpfdoeimaa", sum := "dffb4d948d14016c47972c8b1f4cd750a59030dfdc8a55b42973232944d1b6d3", func := "armature/armaturelaw03.BathStrengths", spec := "bathStrengths", apart := false }
def BathStrengthsSaid : Prop := bathStrengthsRow.holds Try.pinned (OpenSpec.ofChange bathStrengthsSpec)

/-- ITS FALSE NEIGHBOUR: 'it returns false'. Refute it at one input. -/
def bathStrengthsWrong : ChangeSpec := { name := "bathStrengths", fn := fun _ => fun
  | [d1, d2, d3] => { results := [.lit (.bool false)], args := [d1, d2, d3] }
  | _ => none }
def BathStrengthsWrongFalsely : Prop := bathStrengthsRow.holds Try.pinned (OpenSpec.ofChange bathStrengthsWrong)

/-- 'armaturelaw03.BathMixes': WHATEVER THE INPUT: true; the input reads as it did. -/
def bathMixesSpec : ChangeSpec := { name := "bathMixes", fn := fun _ => fun
  | [d1, d2, d3] => { results := [.lit (.bool true)], args := [d1, d2, d3] }
  | _ => none }
def bathMixesRow : OpenClaim := { program := "ytakldbpfdoeimaa", sum := "dffb4d948d14016c47972c8b1f4cd750a59030dfdc8a55b42973232944d1b6d3", func := "armature/armaturelaw03.BathMixes", spec := "bathMixes", unfollowed := true, recurses := true, apart := false }
def BathMixesSaid : Prop := bathMixesRow.holds Try.pinned (OpenSpec.ofChange bathMixesSpec)

/-- ITS FALSE NEIGHBOUR: 'it returns false'. Refute it at one input. -/
def bathMixesWrong : ChangeSpec := { name := "bathMixes", fn := fun _ => fun
  | [d1, d2, d3] => { results := [.lit (.bool false)], args := [d1, d2, d3] }
  | _ => none }
def BathMixesWrongFalsely : Prop := bathMixesRow.holds Try.pinned (OpenSpec.ofChange bathMixesWrong)

/-- 'armaturelaw03.BathKeeps': WHATEVER THE INPUT: true; the input reads as it did. -/
def bathKeepsSpec : ChangeSpec := { name := "bathKeeps", fn := fun _ => fun
  | [d1, d2] => { results := [.lit (.bool true)], args := [d1, d2] }
  | _ => none }
def bathKeepsRow : OpenClaim := { program := "ytakldbpfdoeimaa", sum := "dffb4d948d14016c47972c8b1f4cd750a59030dfdc8a55b42973232944d1b6d3", func := "armature/armaturelaw03.BathKeeps", spec := "bathKeeps", unfollowed := true, recurses := true, apart := false }
def BathKeepsSaid : Prop := bathKeepsRow.holds Try.pinned (OpenSpec.ofChange bathKeepsSpec)

/-- ITS FALSE NEIGHBOUR: 'it returns false'. Refute it at one input. -/
def bathKeepsWrong : ChangeSpec := { name := "bathKeeps", fn := fun _ => fun
  | [d1, d2] => { results := [.lit (.bool false)], args := [d1, d2] }
  | _ => none }
def BathKeepsWrongFalsely : Prop := bathKeepsRow.holds Try.pinned (OpenSpec.ofChange bathKeepsWrong)

/-- 'armaturelaw03.BathTowards': WHATEVER THE INPUT: true; the input reads as it did. -/
def bathTowardsSpec : ChangeSpec := { name := "bathTowards", fn := fun _ => fun
  | [d1, d2] => { results := [.lit (.bool true)], args := [d1, d2] }
  | _ => none }
def bathTowardsRow : OpenClaim := { program := "ytakldbpfdoeimaa", sum := "dffb4d948d14016c47972c8b1f4cd750a59030dfdc8a55b42973232944d1b6d3", func := "armature/armaturelaw03.BathTowards", spec := "bathTowards", unfollowed := true, recurses := true, apart := false }
def BathTowardsSaid : Prop := bathTowardsRow.holds Try.pinned (OpenSpec.ofChange bathTowardsSpec)

/-- ITS FALSE NEIGHBOUR: 'it returns false'. Refute it at one input. -/
def bathTowardsWrong : ChangeSpec := { name := "bathTowards", fn := fun _ => fun
  | [d1, d2] => { results := [.lit (.bool false)], args := [d1, d2] }
  | _ => none }
def BathTowardsWrongFalsely : Prop := bathTowardsRow.holds Try.pinned (OpenSpec.ofChange bathTowardsWrong)

/-- 'armaturelaw03.BathParts': WHATEVER THE INPUT: true; the input reads as it did. -/
def bathPartsSpec : ChangeSpec := { name := "bathParts", fn := fun _ => fun
  | [d1, d2, d3, d4] => { results := [.lit (.bool true)], args := [d1, d2, d3, d4] }
  | _ => none }
def bathPartsRow : OpenClaim := { program := "ytakldbpfdoeimaa", sum := "dffb4d948d14016c47972c8b1f4cd750a59030dfdc8a55b42973232944d1b6d3", func := "armature/armaturelaw03.BathParts", spec := "bathParts", unfollowed := true, recurses := true, apart := false }
def BathPartsSaid : Prop := bathPartsRow.holds Try.pinned (OpenSpec.ofChange bathPartsSpec)

/-- ITS FALSE NEIGHBOUR: 'it returns false'. Refute it at one input. -/
def bathPartsWrong : ChangeSpec := { name := "bathParts", fn := fun _ => fun
  | [d1, d2, d3, d4] => { results := [.lit (.bool false)], args := [d1, d2, d3, d4] }
  | _ => none }
def BathPartsWrongFalsely : Prop := bathPartsRow.holds Try.pinned (OpenSpec.ofChange bathPartsWrong)

/-- 'armaturelaw03.BathBetween': WHATEVER THE INPUT: true; the input reads as it did. -/
def bathBetweenSpec : ChangeSpec := { name := "bathBetween", fn := fun _ => fun
  | [d1, d2, d3] => { results := [.lit (.bool true)], args := [d1, d2, d3] }
  | _ => none }
def bathBetweenRow : OpenClaim := { program := "ytakldbpfdoeimaa", sum := "dffb4d948d14016c47972c8b1f4cd750a59030dfdc8a55b42973232944d1b6d3", func := "armature/armaturelaw03.BathBetween", spec := "bathBetween", apart := false }
def BathBetweenSaid : Prop := bathBetweenRow.holds Try.pinned (OpenSpec.ofChange bathBetweenSpec)

/-- ITS FALSE NEIGHBOUR: 'it returns false'. Refute it at one input. -/
def bathBetweenWrong : ChangeSpec := { name := "bathBetween", fn := fun _ => fun
  | [d1, d2, d3] => { results := [.lit (.bool false)], args := [d1, d2, d3] }
  | _ => none }
def BathBetweenWrongFalsely : Prop := bathBetweenRow.holds Try.pinned (OpenSpec.ofChange bathBetweenWrong)

/- THE SECOND FORM. 'bulk': how many values and letters a reading holds, each counted each time it is reached (what is shared counts as often as it is met; a slice's spare places count too). A statement '..UptoSaid' is the law's where the arguments, and the package variables that the reading takes, are together of bulk at most 1048576: NARROWER than '..Said'. Prove '..Said' where nothing that the law and all that it calls make is longer than what came in: it says more and counts as full. Else prove '..UptoSaid'. A law counts once. -/
mutual
def uptoBulk {H : Type} : DataW H → Nat
  | .lit (.string bytes) => bytes.length + 1
  | .lit _ => 1
  | .nil => 1
  | .ptr d => uptoBulk d + 1
  | .slice elems spare => uptoBulkAll elems + uptoBulkAll spare + 1
  | .agg parts => uptoBulkAll parts + 1
  | .iface _ d => uptoBulk d + 1
  | .map entries => uptoBulkEntries entries + 1
  | .held _ => 1
def uptoBulkAll {H : Type} : List (DataW H) → Nat
  | [] => 0
  | d :: r => uptoBulk d + uptoBulkAll r
def uptoBulkEntries {H : Type} : List (Lit × DataW H) → Nat
  | [] => 0
  | x :: r => uptoBulkEntry x + uptoBulkEntries r
def uptoBulkEntry {H : Type} : Lit × DataW H → Nat
  | (.string bytes, d) => bytes.length + uptoBulk d + 1
  | (_, d) => uptoBulk d + 1
 end
def uptoSmall : (H : Type) → List (DataW H) → Bool := fun _ ds => decide (uptoBulkAll ds ≤ 1048576)
def OpenSpec.upto (s : _root_.Go.ChangeSpec) : _root_.Go.OpenSpec := { _root_.Go.OpenSpec.ofChange s with cond := some uptoSmall }

/-- 'armaturelaw03.BathValid', WHERE WHAT IT READS IS OF BULK AT MOST 1048576: true; the input reads as it did. -/
def bathValidUptoRow : OpenClaim := { program := "ytakldbpfdoeimaa", sum := "dffb4d948d14016c47972c8b1f4cd750a59030dfdc8a55b42973232944d1b6d3", func := "armature/armaturelaw03.BathValid", spec := "bathValid", apart := false, narrowed := true }
def BathValidUptoSaid : Prop := bathValidUptoRow.holds Try.pinned (OpenSpec.upto bathValidSpec)

/-- 'armaturelaw03.BathHours', WHERE WHAT IT READS IS OF BULK AT MOST 1048576: true; the input reads as it did. -/
def bathHoursUptoRow : OpenClaim := { program := "ytakldbpfdoeimaa", sum := "dffb4d948d14016c47972c8b1f4cd750a59030dfdc8a55b42973232944d1b6d3", func := "armature/armaturelaw03.BathHours", spec := "bathHours", apart := false, narrowed := true }
def BathHoursUptoSaid : Prop := bathHoursUptoRow.holds Try.pinned (OpenSpec.upto bathHoursSpec)

/-- 'armaturelaw03.BathRuns', WHERE WHAT IT READS IS OF BULK AT MOST 1048576: true; the input reads as it did. -/
def bathRunsUptoRow : OpenClaim := { program := "ytakldbpfdoeimaa", sum := "dffb4d948d14016c47972c8b1f4cd750a59030dfdc8a55b42973232944d1b6d3", func := "armature/armaturelaw03.BathRuns", spec := "bathRuns", unfollowed := true, recurses := true, apart := false, narrowed := true }
def BathRunsUptoSaid : Prop := bathRunsUptoRow.holds Try.pinned (OpenSpec.upto bathRunsSpec)

/-- 'armaturelaw03.BathSums', WHERE WHAT IT READS IS OF BULK AT MOST 1048576: true; the input reads as it did. -/
def bathSumsUptoRow : OpenClaim := { program := "ytakldbpfdoeimaa", sum := "dffb4d948d14016c47972c8b1f4cd750a59030dfdc8a55b42973232944d1b6d3", func := "armature/armaturelaw03.BathSums", spec := "bathSums", apart := false, narrowed := true }
def BathSumsUptoSaid : Prop := bathSumsUptoRow.holds Try.pinned (OpenSpec.upto bathSumsSpec)

/-- 'armaturelaw03.BathWaits', WHERE WHAT IT READS IS OF BULK AT MOST 1048576: true; the input reads as it did. -/
def bathWaitsUptoRow : OpenClaim := { program := "ytakldbpfdoeimaa", sum := "dffb4d948d14016c47972c8b1f4cd750a59030dfdc8a55b42973232944d1b6d3", func := "armature/armaturelaw03.BathWaits", spec := "bathWaits", unfollowed := true, recurses := true, apart := false, narrowed := true }
def BathWaitsUptoSaid : Prop := bathWaitsUptoRow.holds Try.pinned (OpenSpec.upto bathWaitsSpec)

/-- 'armaturelaw03.BathStrengths', WHERE WHAT IT READS IS OF BULK AT MOST 1048576: true; the input reads as it did. -/
def bathStrengthsUptoRow : OpenClaim := { program := "ytakldbpfdoeimaa", sum := "dffb4d948d14016c47972c8b1f4cd750a59030dfdc8a55b42973232944d1b6d3", func := "armature/armaturelaw03.BathStrengths", spec := "bathStrengths", apart := false, narrowed := true }
def BathStrengthsUptoSaid : Prop := bathStrengthsUptoRow.holds Try.pinned (OpenSpec.upto bathStrengthsSpec)

/-- 'armaturelaw03.BathMixes', WHERE WHAT IT READS IS OF BULK AT MOST 1048576: true; the input reads as it did. -/
def bathMixesUptoRow : OpenClaim := { program := "ytakldbpfdoeimaa", sum := "dffb4d948d14016c47972c8b1f4cd750a59030dfdc8a55b42973232944d1b6d3", func := "armature/armaturelaw03.BathMixes", spec := "bathMixes", unfollowed := true, recurses := true, apart := false, narrowed := true }
def BathMixesUptoSaid : Prop := bathMixesUptoRow.holds Try.pinned (OpenSpec.upto bathMixesSpec)

/-- 'armaturelaw03.BathKeeps', WHERE WHAT IT READS IS OF BULK AT MOST 1048576: true; the input reads as it did. -/
def bathKeepsUptoRow : OpenClaim := { program := "ytakldbpfdoeimaa", sum := "dffb4d948d14016c47972c8b1f4cd750a59030dfdc8a55b42973232944d1b6d3", func := "armature/armaturelaw03.BathKeeps", spec := "bathKeeps", unfollowed := true, recurses := true, apart := false, narrowed := true }
def BathKeepsUptoSaid : Prop := bathKeepsUptoRow.holds Try.pinned (OpenSpec.upto bathKeepsSpec)

/-- 'armaturelaw03.BathTowards', WHERE WHAT IT READS IS OF BULK AT MOST 1048576: true; the input reads as it did. -/
def bathTowardsUptoRow : OpenClaim := { program := "ytakldbpfdoeimaa", sum := "dffb4d948d14016c47972c8b1f4cd750a59030dfdc8a55b42973232944d1b6d3", func := "armature/armaturelaw03.BathTowards", spec := "bathTowards", unfollowed := true, recurses := true, apart := false, narrowed := true }
def BathTowardsUptoSaid : Prop := bathTowardsUptoRow.holds Try.pinned (OpenSpec.upto bathTowardsSpec)

/-- 'armaturelaw03.BathParts', WHERE WHAT IT READS IS OF BULK AT MOST 1048576: true; the input reads as it did. -/
def bathPartsUptoRow : OpenClaim := { program := "ytakldbpfdoeimaa", sum := "dffb4d948d14016c47972c8b1f4cd750a59030dfdc8a55b42973232944d1b6d3", func := "armature/armaturelaw03.BathParts", spec := "bathParts", unfollowed := true, recurses := true, apart := false, narrowed := true }
def BathPartsUptoSaid : Prop := bathPartsUptoRow.holds Try.pinned (OpenSpec.upto bathPartsSpec)

/-- 'armaturelaw03.BathBetween', WHERE WHAT IT READS IS OF BULK AT MOST 1048576: true; the input reads as it did. -/
def bathBetweenUptoRow : OpenClaim := { program := "ytakldbpfdoeimaa", sum := "dffb4d948d14016c47972c8b1f4cd750a59030dfdc8a55b42973232944d1b6d3", func := "armature/armaturelaw03.BathBetween", spec := "bathBetween", apart := false, narrowed := true }
def BathBetweenUptoSaid : Prop := bathBetweenUptoRow.holds Try.pinned (OpenSpec.upto bathBetweenSpec)

end Rows
end Go.Proofs.Ytakldbpfdoeimaa
