/-
  DERIVED. GIVEN WITH THE SEED: THE CARDS: each row of YtjdcdakedoljbaaDoorRows.lean that lists a variable, with what it lists TIED to the program's text (the seventh form; the later family's looks); each row that meets fmt, with fmt's text TOLD by the authors' own Lean function (tested against real Go, not proved from fmt's source: count such statements apart). THE CARD IS WHAT COUNTS. Prove the row's statement (the work); the ties are given (YtjdcdakedoljbaaDoorTie.lean); close each card by the builder's one call (the guide's Derived/Test/ToyasCard.lean, 'card_holds'). Laid BY PROGRAM, IN A SANDBOX (cutbox-door.mjs). By AI agents, Wed Nov 11 2026. No macro, syntax, notation, axiom, sorry.
-/
import Derived.Test.YtjdcdakedoljbaaDoorRows
import GoSem.ClaimSeven
namespace Go.Proofs.YtjdcdakedoljbaaDoor
namespace Rows

/-- THE TIED CARD OF 'armaturelaw01.MarkNumbers'. -/
def markNumbersCard : Claim7 := { stood := { row := markNumbersRow, standIns := [], harness := (true, "140436902095c0d388b7d5ad1193b53439a5223cf1f5c6b699f9fb4a26739a69"), looks := true }, kinds := [], alts := [], laidByText := true, laidKinds := [.data, .data, .data], laidTests := true, laidLooks := .later }
def MarkNumbersCardSaid : Prop := Claim7.holds Tryd.pinned (.plain (OpenSpec.ofChange markNumbersSpec)) markNumbersCard

/-- THE TIED CARD OF 'armaturelaw01.MarkChecks'. -/
def markChecksCard : Claim7 := { stood := { row := markChecksRow, standIns := [], harness := (true, "140436902095c0d388b7d5ad1193b53439a5223cf1f5c6b699f9fb4a26739a69"), looks := true }, kinds := [], alts := [], laidByText := true, laidKinds := [.data, .data, .data], laidTests := true, laidLooks := .later }
def MarkChecksCardSaid : Prop := Claim7.holds Tryd.pinned (.plain (OpenSpec.ofChange markChecksSpec)) markChecksCard

/-- THE TIED CARD OF 'armaturelaw01.MarkLabels'. -/
def markLabelsCard : Claim7 := { stood := { row := markLabelsRow, standIns := [], harness := (true, "140436902095c0d388b7d5ad1193b53439a5223cf1f5c6b699f9fb4a26739a69"), looks := true }, kinds := [], alts := [], laidByText := true, laidKinds := [.data, .data, .data], laidTests := true, laidLooks := .later }
def MarkLabelsCardSaid : Prop := Claim7.holds Tryd.pinned (.plain (OpenSpec.ofChange markLabelsSpec)) markLabelsCard

/-- THE TIED CARD OF 'armaturelaw01.MarkLattice'. -/
def markLatticeCard : Claim7 := { stood := { row := markLatticeRow, standIns := [], harness := (true, "140436902095c0d388b7d5ad1193b53439a5223cf1f5c6b699f9fb4a26739a69"), looks := true }, kinds := [], alts := [], laidByText := true, laidKinds := [.data, .data, .data], laidTests := true, laidLooks := .later }
def MarkLatticeCardSaid : Prop := Claim7.holds Tryd.pinned (.plain (OpenSpec.ofChange markLatticeSpec)) markLatticeCard

/-- THE TIED CARD OF 'armaturelaw01.MarkParts'. -/
def markPartsCard : Claim7 := { stood := { row := markPartsRow, standIns := [], harness := (true, "140436902095c0d388b7d5ad1193b53439a5223cf1f5c6b699f9fb4a26739a69"), looks := true }, kinds := [], alts := [], laidByText := true, laidKinds := [.data, .data, .data], laidTests := true, laidLooks := .later }
def MarkPartsCardSaid : Prop := Claim7.holds Tryd.pinned (.plain (OpenSpec.ofChange markPartsSpec)) markPartsCard

/-- THE TIED CARD OF 'armaturelaw01.MarkNever'. -/
def markNeverCard : Claim7 := { stood := { row := markNeverRow, standIns := [], harness := (true, "140436902095c0d388b7d5ad1193b53439a5223cf1f5c6b699f9fb4a26739a69"), looks := true }, kinds := [], alts := [], laidByText := true, laidKinds := [.data, .data, .data], laidTests := true, laidLooks := .later }
def MarkNeverCardSaid : Prop := Claim7.holds Tryd.pinned (.plain (OpenSpec.ofChange markNeverSpec)) markNeverCard

/-- THE TIED CARD OF 'armaturelaw01.MarkTexts'. -/
def markTextsCard : Claim7 := { stood := { row := markTextsRow, standIns := [], harness := (true, "140436902095c0d388b7d5ad1193b53439a5223cf1f5c6b699f9fb4a26739a69"), looks := true }, kinds := [], alts := [], laidByText := true, laidKinds := [.data, .data, .data, .data, .sentinel, .sentinel, .pinned], laidTests := true, laidLooks := .later }
def MarkTextsCardSaid : Prop := Claim7.holds Tryd.pinned (.plain (OpenSpec.ofChange markTextsSpec)) markTextsCard

/-- THE SECOND FORM's CARD OF 'armaturelaw01.MarkNumbers'. -/
def markNumbersUptoCard : Claim7 := { stood := { row := markNumbersUptoRow, standIns := [], harness := (true, "140436902095c0d388b7d5ad1193b53439a5223cf1f5c6b699f9fb4a26739a69"), looks := true }, kinds := [], alts := [], laidByText := true, laidKinds := [.data, .data, .data], laidTests := true, laidLooks := .later }
def MarkNumbersUptoCardSaid : Prop := Claim7.holds Tryd.pinned (.plain (OpenSpec.upto markNumbersSpec)) markNumbersUptoCard

/-- THE SECOND FORM's CARD OF 'armaturelaw01.MarkChecks'. -/
def markChecksUptoCard : Claim7 := { stood := { row := markChecksUptoRow, standIns := [], harness := (true, "140436902095c0d388b7d5ad1193b53439a5223cf1f5c6b699f9fb4a26739a69"), looks := true }, kinds := [], alts := [], laidByText := true, laidKinds := [.data, .data, .data], laidTests := true, laidLooks := .later }
def MarkChecksUptoCardSaid : Prop := Claim7.holds Tryd.pinned (.plain (OpenSpec.upto markChecksSpec)) markChecksUptoCard

/-- THE SECOND FORM's CARD OF 'armaturelaw01.MarkLabels'. -/
def markLabelsUptoCard : Claim7 := { stood := { row := markLabelsUptoRow, standIns := [], harness := (true, "140436902095c0d388b7d5ad1193b53439a5223cf1f5c6b699f9fb4a26739a69"), looks := true }, kinds := [], alts := [], laidByText := true, laidKinds := [.data, .data, .data], laidTests := true, laidLooks := .later }
def MarkLabelsUptoCardSaid : Prop := Claim7.holds Tryd.pinned (.plain (OpenSpec.upto markLabelsSpec)) markLabelsUptoCard

/-- THE SECOND FORM's CARD OF 'armaturelaw01.MarkLattice'. -/
def markLatticeUptoCard : Claim7 := { stood := { row := markLatticeUptoRow, standIns := [], harness := (true, "140436902095c0d388b7d5ad1193b53439a5223cf1f5c6b699f9fb4a26739a69"), looks := true }, kinds := [], alts := [], laidByText := true, laidKinds := [.data, .data, .data], laidTests := true, laidLooks := .later }
def MarkLatticeUptoCardSaid : Prop := Claim7.holds Tryd.pinned (.plain (OpenSpec.upto markLatticeSpec)) markLatticeUptoCard

/-- THE SECOND FORM's CARD OF 'armaturelaw01.MarkParts'. -/
def markPartsUptoCard : Claim7 := { stood := { row := markPartsUptoRow, standIns := [], harness := (true, "140436902095c0d388b7d5ad1193b53439a5223cf1f5c6b699f9fb4a26739a69"), looks := true }, kinds := [], alts := [], laidByText := true, laidKinds := [.data, .data, .data], laidTests := true, laidLooks := .later }
def MarkPartsUptoCardSaid : Prop := Claim7.holds Tryd.pinned (.plain (OpenSpec.upto markPartsSpec)) markPartsUptoCard

/-- THE SECOND FORM's CARD OF 'armaturelaw01.MarkNever'. -/
def markNeverUptoCard : Claim7 := { stood := { row := markNeverUptoRow, standIns := [], harness := (true, "140436902095c0d388b7d5ad1193b53439a5223cf1f5c6b699f9fb4a26739a69"), looks := true }, kinds := [], alts := [], laidByText := true, laidKinds := [.data, .data, .data], laidTests := true, laidLooks := .later }
def MarkNeverUptoCardSaid : Prop := Claim7.holds Tryd.pinned (.plain (OpenSpec.upto markNeverSpec)) markNeverUptoCard

/-- THE SECOND FORM's CARD OF 'armaturelaw01.MarkTexts'. -/
def markTextsUptoCard : Claim7 := { stood := { row := markTextsUptoRow, standIns := [], harness := (true, "140436902095c0d388b7d5ad1193b53439a5223cf1f5c6b699f9fb4a26739a69"), looks := true }, kinds := [], alts := [], laidByText := true, laidKinds := [.data, .data, .data, .data, .sentinel, .sentinel, .pinned], laidTests := true, laidLooks := .later }
def MarkTextsUptoCardSaid : Prop := Claim7.holds Tryd.pinned (.plain (OpenSpec.upto markTextsSpec)) markTextsUptoCard
end Rows
end Go.Proofs.YtjdcdakedoljbaaDoor
