/-
  DERIVED. GIVEN WITH THE SEED: THE CARDS: each row of YtibbebglbcjnmaaDoorRows.lean that lists a variable, with what it lists TIED to the program's text (the seventh form; the later family's looks); each row that meets fmt, with fmt's text TOLD by the authors' own Lean function (tested against real Go, not proved from fmt's source: count such statements apart). THE CARD IS WHAT COUNTS. Prove the row's statement (the work); the ties are given (YtibbebglbcjnmaaDoorTie.lean); close each card by the builder's one call (the guide's Derived/Test/ToyasCard.lean, 'card_holds'). Laid BY PROGRAM, IN A SANDBOX (cutbox-door.mjs). By AI agents, Wed Nov 11 2026. No macro, syntax, notation, axiom, sorry.
-/
import Derived.Test.YtibbebglbcjnmaaDoorRows
import GoSem.ClaimSeven
namespace Go.Proofs.YtibbebglbcjnmaaDoor
namespace Rows

/-- THE TIED CARD OF 'tintypelaw30.SniffFormats'. -/
def sniffFormatsCard : Claim7 := { stood := { row := sniffFormatsRow, standIns := [], harness := (true, "fd8579f043e34fa4178f5169db2fba4407c518244bb4932d418036fc108616e9"), looks := false }, kinds := [], alts := [], laidByText := true, laidKinds := [.data], laidTests := true, laidLooks := .later }
def SniffFormatsCardSaid : Prop := Claim7.holds Tryd.pinned (.plain (OpenSpec.ofChange sniffFormatsSpec)) sniffFormatsCard

/-- THE TIED CARD OF 'tintypelaw30.SniffNames'. -/
def sniffNamesCard : Claim7 := { stood := { row := sniffNamesRow, standIns := [], harness := (true, "fd8579f043e34fa4178f5169db2fba4407c518244bb4932d418036fc108616e9"), looks := false }, kinds := [], alts := [], laidByText := true, laidKinds := [.data], laidTests := true, laidLooks := .later }
def SniffNamesCardSaid : Prop := Claim7.holds Tryd.pinned (.plain (OpenSpec.ofChange sniffNamesSpec)) sniffNamesCard

/-- THE TIED CARD OF 'tintypelaw30.SniffStops'. -/
def sniffStopsCard : Claim7 := { stood := { row := sniffStopsRow, standIns := [], harness := (true, "fd8579f043e34fa4178f5169db2fba4407c518244bb4932d418036fc108616e9"), looks := false }, kinds := [], alts := [], laidByText := true, laidKinds := [.data], laidTests := true, laidLooks := .later }
def SniffStopsCardSaid : Prop := Claim7.holds Tryd.pinned (.plain (OpenSpec.ofChange sniffStopsSpec)) sniffStopsCard

/-- THE SECOND FORM's CARD OF 'tintypelaw30.SniffFormats'. -/
def sniffFormatsUptoCard : Claim7 := { stood := { row := sniffFormatsUptoRow, standIns := [], harness := (true, "fd8579f043e34fa4178f5169db2fba4407c518244bb4932d418036fc108616e9"), looks := false }, kinds := [], alts := [], laidByText := true, laidKinds := [.data], laidTests := true, laidLooks := .later }
def SniffFormatsUptoCardSaid : Prop := Claim7.holds Tryd.pinned (.plain (OpenSpec.upto sniffFormatsSpec)) sniffFormatsUptoCard

/-- THE SECOND FORM's CARD OF 'tintypelaw30.SniffNames'. -/
def sniffNamesUptoCard : Claim7 := { stood := { row := sniffNamesUptoRow, standIns := [], harness := (true, "fd8579f043e34fa4178f5169db2fba4407c518244bb4932d418036fc108616e9"), looks := false }, kinds := [], alts := [], laidByText := true, laidKinds := [.data], laidTests := true, laidLooks := .later }
def SniffNamesUptoCardSaid : Prop := Claim7.holds Tryd.pinned (.plain (OpenSpec.upto sniffNamesSpec)) sniffNamesUptoCard

/-- THE SECOND FORM's CARD OF 'tintypelaw30.SniffStops'. -/
def sniffStopsUptoCard : Claim7 := { stood := { row := sniffStopsUptoRow, standIns := [], harness := (true, "fd8579f043e34fa4178f5169db2fba4407c518244bb4932d418036fc108616e9"), looks := false }, kinds := [], alts := [], laidByText := true, laidKinds := [.data], laidTests := true, laidLooks := .later }
def SniffStopsUptoCardSaid : Prop := Claim7.holds Tryd.pinned (.plain (OpenSpec.upto sniffStopsSpec)) sniffStopsUptoCard
end Rows
end Go.Proofs.YtibbebglbcjnmaaDoor
