/-
  DERIVED. GIVEN WITH THE SEED: THE CARDS: each row of YtfhcefglefkakaaGreatDoorRows.lean that lists a variable, with what it lists TIED to the program's text (the seventh form; the later family's looks); each row that meets fmt, with fmt's text TOLD by the authors' own Lean function (tested against real Go, not proved from fmt's source: count such statements apart). THE CARD IS WHAT COUNTS. Prove the row's statement (the work); the ties are given (YtfhcefglefkakaaGreatDoorTie.lean); close each card by the builder's one call (the guide's Derived/Test/ToyasCard.lean, 'card_holds'). Laid BY PROGRAM, IN A SANDBOX (cutbox-door.mjs). By AI agents, Wed Nov 11 2026. No macro, syntax, notation, axiom, sorry.
-/
import Derived.Test.YtfhcefglefkakaaGreatDoorRows
import GoSem.ClaimSeven
namespace Go.Proofs.YtfhcefglefkakaaGreatDoor
namespace Rows

/-- THE TIED CARD OF 'tintypelaw31.NeedNumbers'. -/
def needNumbersCard : Claim7 := { stood := { row := needNumbersRow, standIns := [], harness := (true, "a408c8f2bca7b0e2185623c88f6003de62632874979c2952efe6ae0565925b22"), looks := false }, kinds := [], alts := [], laidByText := true, laidKinds := [.data, .data], laidTests := true, laidLooks := .later }
def NeedNumbersCardSaid : Prop := Claim7.holds Tryz.pinned (.plain (OpenSpec.ofChange needNumbersSpec)) needNumbersCard

/-- THE TIED CARD OF 'tintypelaw31.NeedWithin'. -/
def needWithinCard : Claim7 := { stood := { row := needWithinRow, standIns := [], harness := (true, "a408c8f2bca7b0e2185623c88f6003de62632874979c2952efe6ae0565925b22"), looks := false }, kinds := [], alts := [], laidByText := true, laidKinds := [.data, .data], laidTests := true, laidLooks := .later }
def NeedWithinCardSaid : Prop := Claim7.holds Tryz.pinned (.plain (OpenSpec.ofChange needWithinSpec)) needWithinCard

/-- THE SECOND FORM's CARD OF 'tintypelaw31.NeedNumbers'. -/
def needNumbersUptoCard : Claim7 := { stood := { row := needNumbersUptoRow, standIns := [], harness := (true, "a408c8f2bca7b0e2185623c88f6003de62632874979c2952efe6ae0565925b22"), looks := false }, kinds := [], alts := [], laidByText := true, laidKinds := [.data, .data], laidTests := true, laidLooks := .later }
def NeedNumbersUptoCardSaid : Prop := Claim7.holds Tryz.pinned (.plain (OpenSpec.upto needNumbersSpec)) needNumbersUptoCard

/-- THE SECOND FORM's CARD OF 'tintypelaw31.NeedWithin'. -/
def needWithinUptoCard : Claim7 := { stood := { row := needWithinUptoRow, standIns := [], harness := (true, "a408c8f2bca7b0e2185623c88f6003de62632874979c2952efe6ae0565925b22"), looks := false }, kinds := [], alts := [], laidByText := true, laidKinds := [.data, .data], laidTests := true, laidLooks := .later }
def NeedWithinUptoCardSaid : Prop := Claim7.holds Tryz.pinned (.plain (OpenSpec.upto needWithinSpec)) needWithinUptoCard
end Rows
end Go.Proofs.YtfhcefglefkakaaGreatDoor
