/-
  DERIVED. GIVEN WITH THE SEED: THE CARDS: each row of YtnfkgnjeamnhfaaDoorRows.lean that lists a variable, with what it lists TIED to the program's text (the seventh form; the later family's looks); each row that meets fmt, with fmt's text TOLD by the authors' own Lean function (tested against real Go, not proved from fmt's source: count such statements apart). THE CARD IS WHAT COUNTS. Prove the row's statement (the work); the ties are given (YtnfkgnjeamnhfaaDoorTie.lean); close each card by the builder's one call (the guide's Derived/Test/ToyasCard.lean, 'card_holds'). Laid BY PROGRAM, IN A SANDBOX (cutbox-door.mjs). By AI agents, Wed Nov 11 2026. No macro, syntax, notation, axiom, sorry.
-/
import Derived.Test.YtnfkgnjeamnhfaaDoorRows
import GoSem.ClaimSeven
namespace Go.Proofs.YtnfkgnjeamnhfaaDoor
namespace Rows

/-- THE TIED CARD OF 'waymarklaw.Texts'. -/
def textsCard : Claim7 := { stood := { row := textsRow, standIns := [], harness := (true, "17b97ec35ec90ff362f626d9be1a1ad22bd4d57e67c5f537f90aa30a133a56e7"), looks := false }, kinds := [], alts := [], laidByText := true, laidKinds := [.data, .data, .data], laidTests := true, laidLooks := .later }
def TextsCardSaid : Prop := Claim7.holds Tryd.pinned (.plain (OpenSpec.ofChange textsSpec)) textsCard

/-- THE TIED CARD OF 'waymarkkeep.Reread'. -/
def rereadCard : Claim7 := { stood := { row := rereadRow, standIns := [], harness := (true, "17b97ec35ec90ff362f626d9be1a1ad22bd4d57e67c5f537f90aa30a133a56e7"), looks := false }, kinds := [], alts := [], laidByText := true, laidKinds := [.data, .data, .data], laidTests := true, laidLooks := .later }
def RereadCardSaid : Prop := Claim7.holds Tryd.pinned (.plain (OpenSpec.ofChange rereadSpec)) rereadCard

/-- THE SECOND FORM's CARD OF 'waymarklaw.Texts'. -/
def textsUptoCard : Claim7 := { stood := { row := textsUptoRow, standIns := [], harness := (true, "17b97ec35ec90ff362f626d9be1a1ad22bd4d57e67c5f537f90aa30a133a56e7"), looks := false }, kinds := [], alts := [], laidByText := true, laidKinds := [.data, .data, .data], laidTests := true, laidLooks := .later }
def TextsUptoCardSaid : Prop := Claim7.holds Tryd.pinned (.plain (OpenSpec.upto textsSpec)) textsUptoCard

/-- THE SECOND FORM's CARD OF 'waymarkkeep.Reread'. -/
def rereadUptoCard : Claim7 := { stood := { row := rereadUptoRow, standIns := [], harness := (true, "17b97ec35ec90ff362f626d9be1a1ad22bd4d57e67c5f537f90aa30a133a56e7"), looks := false }, kinds := [], alts := [], laidByText := true, laidKinds := [.data, .data, .data], laidTests := true, laidLooks := .later }
def RereadUptoCardSaid : Prop := Claim7.holds Tryd.pinned (.plain (OpenSpec.upto rereadSpec)) rereadUptoCard
end Rows
end Go.Proofs.YtnfkgnjeamnhfaaDoor
