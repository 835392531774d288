/-
  DERIVED. GIVEN WITH THE SEED: THE CARDS: each row of YtdghgilnhganmabDoorRows.lean that lists a variable, with what it lists TIED to the program's text (the seventh form; the later family's looks); each row that meets fmt, with fmt's text TOLD by the authors' own Lean function (tested against real Go, not proved from fmt's source: count such statements apart). THE CARD IS WHAT COUNTS. Prove the row's statement (the work); the ties are given (YtdghgilnhganmabDoorTie.lean); close each card by the builder's one call (the guide's Derived/Test/ToyasCard.lean, 'card_holds'). Laid BY PROGRAM, IN A SANDBOX (cutbox-door.mjs). By AI agents, Wed Nov 11 2026. No macro, syntax, notation, axiom, sorry.
-/
import Derived.Test.YtdghgilnhganmabDoorRows
import GoSem.ClaimSeven
namespace Go.Proofs.YtdghgilnhganmabDoor
namespace Rows

/-- THE TIED CARD OF 'armaturetop.TopWeak'. -/
def topWeakCard : Claim7 := { stood := { row := topWeakRow, standIns := [], harness := (true, "a104d7ed2e2b221f420aa19d008cae7bed6d8c53fb8b0a6a977a9414ee1590cb"), looks := false }, kinds := [], alts := [], laidByText := true, laidKinds := [.data, .data, .data], laidTests := true, laidLooks := .later }
def TopWeakCardSaid : Prop := Claim7.holds Tryd.pinned (.plain (OpenSpec.ofChange topWeakSpec)) topWeakCard

/-- THE TIED CARD OF 'armaturetop.TopColds'. -/
def topColdsCard : Claim7 := { stood := { row := topColdsRow, standIns := [], harness := (true, "a104d7ed2e2b221f420aa19d008cae7bed6d8c53fb8b0a6a977a9414ee1590cb"), looks := false }, kinds := [], alts := [], laidByText := true, laidKinds := [.data, .data, .data], laidTests := true, laidLooks := .later }
def TopColdsCardSaid : Prop := Claim7.holds Tryd.pinned (.plain (OpenSpec.ofChange topColdsSpec)) topColdsCard

/-- THE TIED CARD OF 'armaturetop.TopForms'. -/
def topFormsCard : Claim7 := { stood := { row := topFormsRow, standIns := [], harness := (true, "a104d7ed2e2b221f420aa19d008cae7bed6d8c53fb8b0a6a977a9414ee1590cb"), looks := false }, kinds := [], alts := [], laidByText := true, laidKinds := [.data, .data, .data], laidTests := true, laidLooks := .later }
def TopFormsCardSaid : Prop := Claim7.holds Tryd.pinned (.plain (OpenSpec.ofChange topFormsSpec)) topFormsCard

/-- THE TIED CARD OF 'armaturetop.TopNear'. -/
def topNearCard : Claim7 := { stood := { row := topNearRow, standIns := [], harness := (true, "a104d7ed2e2b221f420aa19d008cae7bed6d8c53fb8b0a6a977a9414ee1590cb"), looks := false }, kinds := [], alts := [], laidByText := true, laidKinds := [.data, .data, .data], laidTests := true, laidLooks := .later }
def TopNearCardSaid : Prop := Claim7.holds Tryd.pinned (.plain (OpenSpec.ofChange topNearSpec)) topNearCard

/-- THE SECOND FORM's CARD OF 'armaturetop.TopWeak'. -/
def topWeakUptoCard : Claim7 := { stood := { row := topWeakUptoRow, standIns := [], harness := (true, "a104d7ed2e2b221f420aa19d008cae7bed6d8c53fb8b0a6a977a9414ee1590cb"), looks := false }, kinds := [], alts := [], laidByText := true, laidKinds := [.data, .data, .data], laidTests := true, laidLooks := .later }
def TopWeakUptoCardSaid : Prop := Claim7.holds Tryd.pinned (.plain (OpenSpec.upto topWeakSpec)) topWeakUptoCard

/-- THE SECOND FORM's CARD OF 'armaturetop.TopColds'. -/
def topColdsUptoCard : Claim7 := { stood := { row := topColdsUptoRow, standIns := [], harness := (true, "a104d7ed2e2b221f420aa19d008cae7bed6d8c53fb8b0a6a977a9414ee1590cb"), looks := false }, kinds := [], alts := [], laidByText := true, laidKinds := [.data, .data, .data], laidTests := true, laidLooks := .later }
def TopColdsUptoCardSaid : Prop := Claim7.holds Tryd.pinned (.plain (OpenSpec.upto topColdsSpec)) topColdsUptoCard

/-- THE SECOND FORM's CARD OF 'armaturetop.TopForms'. -/
def topFormsUptoCard : Claim7 := { stood := { row := topFormsUptoRow, standIns := [], harness := (true, "a104d7ed2e2b221f420aa19d008cae7bed6d8c53fb8b0a6a977a9414ee1590cb"), looks := false }, kinds := [], alts := [], laidByText := true, laidKinds := [.data, .data, .data], laidTests := true, laidLooks := .later }
def TopFormsUptoCardSaid : Prop := Claim7.holds Tryd.pinned (.plain (OpenSpec.upto topFormsSpec)) topFormsUptoCard

/-- THE SECOND FORM's CARD OF 'armaturetop.TopNear'. -/
def topNearUptoCard : Claim7 := { stood := { row := topNearUptoRow, standIns := [], harness := (true, "a104d7ed2e2b221f420aa19d008cae7bed6d8c53fb8b0a6a977a9414ee1590cb"), looks := false }, kinds := [], alts := [], laidByText := true, laidKinds := [.data, .data, .data], laidTests := true, laidLooks := .later }
def TopNearUptoCardSaid : Prop := Claim7.holds Tryd.pinned (.plain (OpenSpec.upto topNearSpec)) topNearUptoCard
end Rows
end Go.Proofs.YtdghgilnhganmabDoor
