/-
  No cell of these rows narrows 'for every input' (looked for: loops, veiled, ifaces, maps, wideKeys, modest, calm, conditions, laid).
  DERIVED. THE GIVEN ROWS OF THIS SEAT. 10 by the template 'for every input the law returns true; each argument reads behind the call as it read before'; 0 by the template 'total and deterministic' (their statements: YtaofjomocefdkaaTotals.lean).
  GIVEN WITH THE SEED: the statements are not yours to turn. If you find one false, say at which input.
  Laid BY PROGRAM, IN A SANDBOX (cutbox-rows.mjs): the forced cells as the released guide's own fill.sh prints them over the translation 26d7a6aecc076aa8… (all of the seat's roots in one cut). By AI agents, Wed Nov 11 2026. No macro, syntax, notation, axiom, sorry.
-/
import Derived.Test.YtaofjomocefdkaaChecked
import GoSem.Claim
import GoSem.ClaimJoined
import GoSem.ClaimMapViews
import Derived.JoinedTies
import Derived.KernelRfl
namespace Go.Proofs.Ytaofjomocefdkaa
/- THE CELL 'sum', in the pinned program and in every row, IS THE sha256 OF THE DUMP (.gsa) THAT YtaofjomocefdkaaProg.lean LOADS. Nothing in Lean hashes anything: it is a label: what it is worth is what the hold of that sum in a sandbox is worth. -/
noncomputable def Try.pinned : Pinned := { name := "ytaofjomocefdkaa", sum := "26d7a6aecc076aa807d430e144e99e79f2b0f5fdb9912a91621d31dc6fd2d4f0", checked := Try.checked }
namespace Rows
def none {H : Type} : Left H := { results := [], args := [] }

/-- 'armaturelaw09.LoanValid': WHATEVER THE INPUT: true; the input reads as it did. -/
def loanValidSpec : ChangeSpec := { name := "loanValid", fn := fun _ => fun
  | [d1, d2] => { results := [.lit (.bool true)], args := [d1, d2] }
  | _ => none }
def loanValidRow : OpenClaim := { program := "ytaofjomocefdkaa", sum := "26d7a6aecc076aa807d430e144e99e79f2b0f5fdb9912a91621d31dc6fd2d4f0", func := "armature/armaturelaw09.LoanValid", spec := "loanValid", unfollowed := true, recurses := true, apart := false }
def LoanValidSaid : Prop := loanValidRow.holds Try.pinned (OpenSpec.ofChange loanValidSpec)

/-- ITS FALSE NEIGHBOUR: 'it returns false'. Refute it at one input. -/
def loanValidWrong : ChangeSpec := { name := "loanValid", fn := fun _ => fun
  | [d1, d2] => { results := [.lit (.bool false)], args := [d1, d2] }
  | _ => none }
def LoanValidWrongFalsely : Prop := loanValidRow.holds Try.pinned (OpenSpec.ofChange loanValidWrong)

/-- 'armaturelaw09.LoanWhere': WHATEVER THE INPUT: true; the input reads as it did. -/
def loanWhereSpec : ChangeSpec := { name := "loanWhere", fn := fun _ => fun
  | [d1, d2, d3] => { results := [.lit (.bool true)], args := [d1, d2, d3] }
  | _ => none }
def loanWhereRow : OpenClaim := { program := "ytaofjomocefdkaa", sum := "26d7a6aecc076aa807d430e144e99e79f2b0f5fdb9912a91621d31dc6fd2d4f0", func := "armature/armaturelaw09.LoanWhere", spec := "loanWhere", unfollowed := true, recurses := true, apart := false }
def LoanWhereSaid : Prop := loanWhereRow.holds Try.pinned (OpenSpec.ofChange loanWhereSpec)

/-- ITS FALSE NEIGHBOUR: 'it returns false'. Refute it at one input. -/
def loanWhereWrong : ChangeSpec := { name := "loanWhere", fn := fun _ => fun
  | [d1, d2, d3] => { results := [.lit (.bool false)], args := [d1, d2, d3] }
  | _ => none }
def LoanWhereWrongFalsely : Prop := loanWhereRow.holds Try.pinned (OpenSpec.ofChange loanWhereWrong)

/-- 'armaturelaw09.LoanLends': WHATEVER THE INPUT: true; the input reads as it did. -/
def loanLendsSpec : ChangeSpec := { name := "loanLends", fn := fun _ => fun
  | [d1, d2] => { results := [.lit (.bool true)], args := [d1, d2] }
  | _ => none }
def loanLendsRow : OpenClaim := { program := "ytaofjomocefdkaa", sum := "26d7a6aecc076aa807d430e144e99e79f2b0f5fdb9912a91621d31dc6fd2d4f0", func := "armature/armaturelaw09.LoanLends", spec := "loanLends", unfollowed := true, recurses := true, apart := false }
def LoanLendsSaid : Prop := loanLendsRow.holds Try.pinned (OpenSpec.ofChange loanLendsSpec)

/-- ITS FALSE NEIGHBOUR: 'it returns false'. Refute it at one input. -/
def loanLendsWrong : ChangeSpec := { name := "loanLends", fn := fun _ => fun
  | [d1, d2] => { results := [.lit (.bool false)], args := [d1, d2] }
  | _ => none }
def LoanLendsWrongFalsely : Prop := loanLendsRow.holds Try.pinned (OpenSpec.ofChange loanLendsWrong)

/-- 'armaturelaw09.LoanBacks': WHATEVER THE INPUT: true; the input reads as it did. -/
def loanBacksSpec : ChangeSpec := { name := "loanBacks", fn := fun _ => fun
  | [d1, d2, d3, d4] => { results := [.lit (.bool true)], args := [d1, d2, d3, d4] }
  | _ => none }
def loanBacksRow : OpenClaim := { program := "ytaofjomocefdkaa", sum := "26d7a6aecc076aa807d430e144e99e79f2b0f5fdb9912a91621d31dc6fd2d4f0", func := "armature/armaturelaw09.LoanBacks", spec := "loanBacks", unfollowed := true, recurses := true, apart := false }
def LoanBacksSaid : Prop := loanBacksRow.holds Try.pinned (OpenSpec.ofChange loanBacksSpec)

/-- ITS FALSE NEIGHBOUR: 'it returns false'. Refute it at one input. -/
def loanBacksWrong : ChangeSpec := { name := "loanBacks", fn := fun _ => fun
  | [d1, d2, d3, d4] => { results := [.lit (.bool false)], args := [d1, d2, d3, d4] }
  | _ => none }
def LoanBacksWrongFalsely : Prop := loanBacksRow.holds Try.pinned (OpenSpec.ofChange loanBacksWrong)

/-- 'armaturelaw09.LoanDays': WHATEVER THE INPUT: true; the input reads as it did. -/
def loanDaysSpec : ChangeSpec := { name := "loanDays", fn := fun _ => fun
  | [d1, d2, d3, d4, d5] => { results := [.lit (.bool true)], args := [d1, d2, d3, d4, d5] }
  | _ => none }
def loanDaysRow : OpenClaim := { program := "ytaofjomocefdkaa", sum := "26d7a6aecc076aa807d430e144e99e79f2b0f5fdb9912a91621d31dc6fd2d4f0", func := "armature/armaturelaw09.LoanDays", spec := "loanDays", unfollowed := true, recurses := true, apart := false }
def LoanDaysSaid : Prop := loanDaysRow.holds Try.pinned (OpenSpec.ofChange loanDaysSpec)

/-- ITS FALSE NEIGHBOUR: 'it returns false'. Refute it at one input. -/
def loanDaysWrong : ChangeSpec := { name := "loanDays", fn := fun _ => fun
  | [d1, d2, d3, d4, d5] => { results := [.lit (.bool false)], args := [d1, d2, d3, d4, d5] }
  | _ => none }
def LoanDaysWrongFalsely : Prop := loanDaysRow.holds Try.pinned (OpenSpec.ofChange loanDaysWrong)

/-- 'armaturelaw09.LoanBusy': WHATEVER THE INPUT: true; the input reads as it did. -/
def loanBusySpec : ChangeSpec := { name := "loanBusy", fn := fun _ => fun
  | [d1, d2] => { results := [.lit (.bool true)], args := [d1, d2] }
  | _ => none }
def loanBusyRow : OpenClaim := { program := "ytaofjomocefdkaa", sum := "26d7a6aecc076aa807d430e144e99e79f2b0f5fdb9912a91621d31dc6fd2d4f0", func := "armature/armaturelaw09.LoanBusy", spec := "loanBusy", unfollowed := true, recurses := true, apart := false }
def LoanBusySaid : Prop := loanBusyRow.holds Try.pinned (OpenSpec.ofChange loanBusySpec)

/-- ITS FALSE NEIGHBOUR: 'it returns false'. Refute it at one input. -/
def loanBusyWrong : ChangeSpec := { name := "loanBusy", fn := fun _ => fun
  | [d1, d2] => { results := [.lit (.bool false)], args := [d1, d2] }
  | _ => none }
def LoanBusyWrongFalsely : Prop := loanBusyRow.holds Try.pinned (OpenSpec.ofChange loanBusyWrong)

/-- 'armaturelaw09.LoanFree': WHATEVER THE INPUT: true; the input reads as it did. -/
def loanFreeSpec : ChangeSpec := { name := "loanFree", fn := fun _ => fun
  | [d1, d2, d3, d4, d5] => { results := [.lit (.bool true)], args := [d1, d2, d3, d4, d5] }
  | _ => none }
def loanFreeRow : OpenClaim := { program := "ytaofjomocefdkaa", sum := "26d7a6aecc076aa807d430e144e99e79f2b0f5fdb9912a91621d31dc6fd2d4f0", func := "armature/armaturelaw09.LoanFree", spec := "loanFree", unfollowed := true, recurses := true, apart := false }
def LoanFreeSaid : Prop := loanFreeRow.holds Try.pinned (OpenSpec.ofChange loanFreeSpec)

/-- ITS FALSE NEIGHBOUR: 'it returns false'. Refute it at one input. -/
def loanFreeWrong : ChangeSpec := { name := "loanFree", fn := fun _ => fun
  | [d1, d2, d3, d4, d5] => { results := [.lit (.bool false)], args := [d1, d2, d3, d4, d5] }
  | _ => none }
def LoanFreeWrongFalsely : Prop := loanFreeRow.holds Try.pinned (OpenSpec.ofChange loanFreeWrong)

/-- 'armaturelaw09.LoanLists': WHATEVER THE INPUT: true; the input reads as it did. -/
def loanListsSpec : ChangeSpec := { name := "loanLists", fn := fun _ => fun
  | [d1, d2, d3] => { results := [.lit (.bool true)], args := [d1, d2, d3] }
  | _ => none }
def loanListsRow : OpenClaim := { program := "ytaofjomocefdkaa", sum := "26d7a6aecc076aa807d430e144e99e79f2b0f5fdb9912a91621d31dc6fd2d4f0", func := "armature/armaturelaw09.LoanLists", spec := "loanLists", unfollowed := true, recurses := true, apart := false }
def LoanListsSaid : Prop := loanListsRow.holds Try.pinned (OpenSpec.ofChange loanListsSpec)

/-- ITS FALSE NEIGHBOUR: 'it returns false'. Refute it at one input. -/
def loanListsWrong : ChangeSpec := { name := "loanLists", fn := fun _ => fun
  | [d1, d2, d3] => { results := [.lit (.bool false)], args := [d1, d2, d3] }
  | _ => none }
def LoanListsWrongFalsely : Prop := loanListsRow.holds Try.pinned (OpenSpec.ofChange loanListsWrong)

/-- 'armaturelaw09.LoanCharges': WHATEVER THE INPUT: true; the input reads as it did. -/
def loanChargesSpec : ChangeSpec := { name := "loanCharges", fn := fun _ => fun
  | [d1, d2, d3, d4, d5, d6] => { results := [.lit (.bool true)], args := [d1, d2, d3, d4, d5, d6] }
  | _ => none }
def loanChargesRow : OpenClaim := { program := "ytaofjomocefdkaa", sum := "26d7a6aecc076aa807d430e144e99e79f2b0f5fdb9912a91621d31dc6fd2d4f0", func := "armature/armaturelaw09.LoanCharges", spec := "loanCharges", unfollowed := true, recurses := true, apart := false }
def LoanChargesSaid : Prop := loanChargesRow.holds Try.pinned (OpenSpec.ofChange loanChargesSpec)

/-- ITS FALSE NEIGHBOUR: 'it returns false'. Refute it at one input. -/
def loanChargesWrong : ChangeSpec := { name := "loanCharges", fn := fun _ => fun
  | [d1, d2, d3, d4, d5, d6] => { results := [.lit (.bool false)], args := [d1, d2, d3, d4, d5, d6] }
  | _ => none }
def LoanChargesWrongFalsely : Prop := loanChargesRow.holds Try.pinned (OpenSpec.ofChange loanChargesWrong)

/-- 'armaturelaw09.LoanMerged': WHATEVER THE INPUT: true; the input reads as it did. -/
def loanMergedSpec : ChangeSpec := { name := "loanMerged", fn := fun _ => fun
  | [d1, d2, d3, d4, d5] => { results := [.lit (.bool true)], args := [d1, d2, d3, d4, d5] }
  | _ => none }
def loanMergedRow : OpenClaim := { program := "ytaofjomocefdkaa", sum := "26d7a6aecc076aa807d430e144e99e79f2b0f5fdb9912a91621d31dc6fd2d4f0", func := "armature/armaturelaw09.LoanMerged", spec := "loanMerged", unfollowed := true, recurses := true, apart := false }
def LoanMergedSaid : Prop := loanMergedRow.holds Try.pinned (OpenSpec.ofChange loanMergedSpec)

/-- ITS FALSE NEIGHBOUR: 'it returns false'. Refute it at one input. -/
def loanMergedWrong : ChangeSpec := { name := "loanMerged", fn := fun _ => fun
  | [d1, d2, d3, d4, d5] => { results := [.lit (.bool false)], args := [d1, d2, d3, d4, d5] }
  | _ => none }
def LoanMergedWrongFalsely : Prop := loanMergedRow.holds Try.pinned (OpenSpec.ofChange loanMergedWrong)

/- THE SECOND FORM. 'bulk': how many values and letters a reading holds, each counted each time it is reached (what is shared counts as often as it is met; a slice's spare places count too). A statement '..UptoSaid' is the law's where the arguments, and the package variables that the reading takes, are together of bulk at most 1048576: NARROWER than '..Said'. Prove '..Said' where nothing that the law and all that it calls make is longer than what came in: it says more and counts as full. Else prove '..UptoSaid'. A law counts once. -/
mutual
def uptoBulk {H : Type} : DataW H → Nat
  | .lit (.string bytes) => bytes.length + 1
  | .lit _ => 1
  | .nil => 1
  | .ptr d => uptoBulk d + 1
  | .slice elems spare => uptoBulkAll elems + uptoBulkAll spare + 1
  | .agg parts => uptoBulkAll parts + 1
  | .iface _ d => uptoBulk d + 1
  | .map entries => uptoBulkEntries entries + 1
  | .held _ => 1
def uptoBulkAll {H : Type} : List (DataW H) → Nat
  | [] => 0
  | d :: r => uptoBulk d + uptoBulkAll r
def uptoBulkEntries {H : Type} : List (Lit × DataW H) → Nat
  | [] => 0
  | x :: r => uptoBulkEntry x + uptoBulkEntries r
def uptoBulkEntry {H : Type} : Lit × DataW H → Nat
  | (.string bytes, d) => bytes.length + uptoBulk d + 1
  | (_, d) => uptoBulk d + 1
 end
def uptoSmall : (H : Type) → List (DataW H) → Bool := fun _ ds => decide (uptoBulkAll ds ≤ 1048576)
def OpenSpec.upto (s : _root_.Go.ChangeSpec) : _root_.Go.OpenSpec := { _root_.Go.OpenSpec.ofChange s with cond := some uptoSmall }

/-- 'armaturelaw09.LoanValid', WHERE WHAT IT READS IS OF BULK AT MOST 1048576: true; the input reads as it did. -/
def loanValidUptoRow : OpenClaim := { program := "ytaofjomocefdkaa", sum := "26d7a6aecc076aa807d430e144e99e79f2b0f5fdb9912a91621d31dc6fd2d4f0", func := "armature/armaturelaw09.LoanValid", spec := "loanValid", unfollowed := true, recurses := true, apart := false, narrowed := true }
def LoanValidUptoSaid : Prop := loanValidUptoRow.holds Try.pinned (OpenSpec.upto loanValidSpec)

/-- 'armaturelaw09.LoanWhere', WHERE WHAT IT READS IS OF BULK AT MOST 1048576: true; the input reads as it did. -/
def loanWhereUptoRow : OpenClaim := { program := "ytaofjomocefdkaa", sum := "26d7a6aecc076aa807d430e144e99e79f2b0f5fdb9912a91621d31dc6fd2d4f0", func := "armature/armaturelaw09.LoanWhere", spec := "loanWhere", unfollowed := true, recurses := true, apart := false, narrowed := true }
def LoanWhereUptoSaid : Prop := loanWhereUptoRow.holds Try.pinned (OpenSpec.upto loanWhereSpec)

/-- 'armaturelaw09.LoanLends', WHERE WHAT IT READS IS OF BULK AT MOST 1048576: true; the input reads as it did. -/
def loanLendsUptoRow : OpenClaim := { program := "ytaofjomocefdkaa", sum := "26d7a6aecc076aa807d430e144e99e79f2b0f5fdb9912a91621d31dc6fd2d4f0", func := "armature/armaturelaw09.LoanLends", spec := "loanLends", unfollowed := true, recurses := true, apart := false, narrowed := true }
def LoanLendsUptoSaid : Prop := loanLendsUptoRow.holds Try.pinned (OpenSpec.upto loanLendsSpec)

/-- 'armaturelaw09.LoanBacks', WHERE WHAT IT READS IS OF BULK AT MOST 1048576: true; the input reads as it did. -/
def loanBacksUptoRow : OpenClaim := { program := "ytaofjomocefdkaa", sum := "26d7a6aecc076aa807d430e144e99e79f2b0f5fdb9912a91621d31dc6fd2d4f0", func := "armature/armaturelaw09.LoanBacks", spec := "loanBacks", unfollowed := true, recurses := true, apart := false, narrowed := true }
def LoanBacksUptoSaid : Prop := loanBacksUptoRow.holds Try.pinned (OpenSpec.upto loanBacksSpec)

/-- 'armaturelaw09.LoanDays', WHERE WHAT IT READS IS OF BULK AT MOST 1048576: true; the input reads as it did. -/
def loanDaysUptoRow : OpenClaim := { program := "ytaofjomocefdkaa", sum := "26d7a6aecc076aa807d430e144e99e79f2b0f5fdb9912a91621d31dc6fd2d4f0", func := "armature/armaturelaw09.LoanDays", spec := "loanDays", unfollowed := true, recurses := true, apart := false, narrowed := true }
def LoanDaysUptoSaid : Prop := loanDaysUptoRow.holds Try.pinned (OpenSpec.upto loanDaysSpec)

/-- 'armaturelaw09.LoanBusy', WHERE WHAT IT READS IS OF BULK AT MOST 1048576: true; the input reads as it did. -/
def loanBusyUptoRow : OpenClaim := { program := "ytaofjomocefdkaa", sum := "26d7a6aecc076aa807d430e144e99e79f2b0f5fdb9912a91621d31dc6fd2d4f0", func := "armature/armaturelaw09.LoanBusy", spec := "loanBusy", unfollowed := true, recurses := true, apart := false, narrowed := true }
def LoanBusyUptoSaid : Prop := loanBusyUptoRow.holds Try.pinned (OpenSpec.upto loanBusySpec)

/-- 'armaturelaw09.LoanFree', WHERE WHAT IT READS IS OF BULK AT MOST 1048576: true; the input reads as it did. -/
def loanFreeUptoRow : OpenClaim := { program := "ytaofjomocefdkaa", sum := "26d7a6aecc076aa807d430e144e99e79f2b0f5fdb9912a91621d31dc6fd2d4f0", func := "armature/armaturelaw09.LoanFree", spec := "loanFree", unfollowed := true, recurses := true, apart := false, narrowed := true }
def LoanFreeUptoSaid : Prop := loanFreeUptoRow.holds Try.pinned (OpenSpec.upto loanFreeSpec)

/-- 'armaturelaw09.LoanLists', WHERE WHAT IT READS IS OF BULK AT MOST 1048576: true; the input reads as it did. -/
def loanListsUptoRow : OpenClaim := { program := "ytaofjomocefdkaa", sum := "26d7a6aecc076aa807d430e144e99e79f2b0f5fdb9912a91621d31dc6fd2d4f0", func := "armature/armaturelaw09.LoanLists", spec := "loanLists", unfollowed := true, recurses := true, apart := false, narrowed := true }
def LoanListsUptoSaid : Prop := loanListsUptoRow.holds Try.pinned (OpenSpec.upto loanListsSpec)

/-- 'armaturelaw09.LoanCharges', WHERE WHAT IT READS IS OF BULK AT MOST 1048576: true; the input reads as it did. -/
def loanChargesUptoRow : OpenClaim := { program := "ytaofjomocefdkaa", sum := "26d7a6aecc076aa807d430e144e99e79f2b0f5fdb9912a91621d31dc6fd2d4f0", func := "armature/armaturelaw09.LoanCharges", spec := "loanCharges", unfollowed := true, recurses := true, apart := false, narrowed := true }
def LoanChargesUptoSaid : Prop := loanChargesUptoRow.holds Try.pinned (OpenSpec.upto loanChargesSpec)

/-- 'armaturelaw09.LoanMerged', WHERE WHAT IT READS IS OF BULK AT MOST 1048576: true; the input reads as it did. -/
def loanMergedUptoRow : OpenClaim := { program := "ytaofjomocefdkaa", sum := "26d7a6aecc076aa807d430e144e99e79f2b0f5fdb9912a91621d31dc6fd2d4f0", func := "armature/armaturelaw09.LoanMerged", spec := "loanMerged", unfollowed := true, recurses := true, apart := false, narrowed := true }
def LoanMergedUptoSaid : Prop := loanMergedUptoRow.holds Try.pinned (OpenSpec.upto loanMergedSpec)

end Rows
end Go.Proofs.Ytaofjomocefdkaa
