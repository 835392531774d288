/-
  DERIVED. GIVEN WITH THE SEED: THE CARDS: each row of YteidabpflfkdcaaDoorRows.lean that lists a variable, with what it lists TIED to the program's text (the seventh form; the later family's looks); each row that meets fmt, with fmt's text TOLD by the authors' own Lean function (tested against real Go, not proved from fmt's source: count such statements apart). THE CARD IS WHAT COUNTS. Prove the row's statement (the work); the ties are given (YteidabpflfkdcaaDoorTie.lean); close each card by the builder's one call (the guide's Derived/Test/ToyasCard.lean, 'card_holds'). Laid BY PROGRAM, IN A SANDBOX (cutbox-door.mjs). By AI agents, Wed Nov 11 2026. No macro, syntax, notation, axiom, sorry.
-/
import Derived.Test.YteidabpflfkdcaaDoorRows
import GoSem.ClaimSeven
namespace Go.Proofs.YteidabpflfkdcaaDoor
namespace Rows

/-- THE TIED CARD OF 'armaturetop.TopBaths'. -/
def topBathsCard : Claim7 := { stood := { row := topBathsRow, standIns := [], harness := (true, "e23d18526b9d2348e4652028e6524a29ca76b1d9cdfb021222254e76e284c370"), looks := false }, kinds := [], alts := [], laidByText := true, laidKinds := [.data, .data, .data], laidTests := true, laidLooks := .later }
def TopBathsCardSaid : Prop := Claim7.holds Tryd.pinned (.plain (OpenSpec.ofChange topBathsSpec)) topBathsCard

/-- THE TIED CARD OF 'armaturetop.TopWeak'. -/
def topWeakCard : Claim7 := { stood := { row := topWeakRow, standIns := [], harness := (true, "e23d18526b9d2348e4652028e6524a29ca76b1d9cdfb021222254e76e284c370"), looks := false }, kinds := [], alts := [], laidByText := true, laidKinds := [.data, .data, .data], laidTests := true, laidLooks := .later }
def TopWeakCardSaid : Prop := Claim7.holds Tryd.pinned (.plain (OpenSpec.ofChange topWeakSpec)) topWeakCard

/-- THE TIED CARD OF 'armaturetop.TopColds'. -/
def topColdsCard : Claim7 := { stood := { row := topColdsRow, standIns := [], harness := (true, "e23d18526b9d2348e4652028e6524a29ca76b1d9cdfb021222254e76e284c370"), looks := false }, kinds := [], alts := [], laidByText := true, laidKinds := [.data, .data, .data], laidTests := true, laidLooks := .later }
def TopColdsCardSaid : Prop := Claim7.holds Tryd.pinned (.plain (OpenSpec.ofChange topColdsSpec)) topColdsCard

/-- THE TIED CARD OF 'armaturetop.TopForms'. -/
def topFormsCard : Claim7 := { stood := { row := topFormsRow, standIns := [], harness := (true, "e23d18526b9d2348e4652028e6524a29ca76b1d9cdfb021222254e76e284c370"), looks := false }, kinds := [], alts := [], laidByText := true, laidKinds := [.data, .data, .data], laidTests := true, laidLooks := .later }
def TopFormsCardSaid : Prop := Claim7.holds Tryd.pinned (.plain (OpenSpec.ofChange topFormsSpec)) topFormsCard

/-- THE SECOND FORM's CARD OF 'armaturetop.TopBaths'. -/
def topBathsUptoCard : Claim7 := { stood := { row := topBathsUptoRow, standIns := [], harness := (true, "e23d18526b9d2348e4652028e6524a29ca76b1d9cdfb021222254e76e284c370"), looks := false }, kinds := [], alts := [], laidByText := true, laidKinds := [.data, .data, .data], laidTests := true, laidLooks := .later }
def TopBathsUptoCardSaid : Prop := Claim7.holds Tryd.pinned (.plain (OpenSpec.upto topBathsSpec)) topBathsUptoCard

/-- THE SECOND FORM's CARD OF 'armaturetop.TopWeak'. -/
def topWeakUptoCard : Claim7 := { stood := { row := topWeakUptoRow, standIns := [], harness := (true, "e23d18526b9d2348e4652028e6524a29ca76b1d9cdfb021222254e76e284c370"), looks := false }, kinds := [], alts := [], laidByText := true, laidKinds := [.data, .data, .data], laidTests := true, laidLooks := .later }
def TopWeakUptoCardSaid : Prop := Claim7.holds Tryd.pinned (.plain (OpenSpec.upto topWeakSpec)) topWeakUptoCard

/-- THE SECOND FORM's CARD OF 'armaturetop.TopColds'. -/
def topColdsUptoCard : Claim7 := { stood := { row := topColdsUptoRow, standIns := [], harness := (true, "e23d18526b9d2348e4652028e6524a29ca76b1d9cdfb021222254e76e284c370"), looks := false }, kinds := [], alts := [], laidByText := true, laidKinds := [.data, .data, .data], laidTests := true, laidLooks := .later }
def TopColdsUptoCardSaid : Prop := Claim7.holds Tryd.pinned (.plain (OpenSpec.upto topColdsSpec)) topColdsUptoCard

/-- THE SECOND FORM's CARD OF 'armaturetop.TopForms'. -/
def topFormsUptoCard : Claim7 := { stood := { row := topFormsUptoRow, standIns := [], harness := (true, "e23d18526b9d2348e4652028e6524a29ca76b1d9cdfb021222254e76e284c370"), looks := false }, kinds := [], alts := [], laidByText := true, laidKinds := [.data, .data, .data], laidTests := true, laidLooks := .later }
def TopFormsUptoCardSaid : Prop := Claim7.holds Tryd.pinned (.plain (OpenSpec.upto topFormsSpec)) topFormsUptoCard
end Rows
end Go.Proofs.YteidabpflfkdcaaDoor
