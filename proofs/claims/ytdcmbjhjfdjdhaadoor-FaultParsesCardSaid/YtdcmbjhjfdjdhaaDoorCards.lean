/-
  DERIVED. GIVEN WITH THE SEED: THE CARDS: each row of YtdcmbjhjfdjdhaaDoorRows.lean that lists a variable, with what it lists TIED to the program's text (the seventh form; the later family's looks); each row that meets fmt, with fmt's text TOLD by the authors' own Lean function (tested against real Go, not proved from fmt's source: count such statements apart). THE CARD IS WHAT COUNTS. Prove the row's statement (the work); the ties are given (YtdcmbjhjfdjdhaaDoorTie.lean); close each card by the builder's one call (the guide's Derived/Test/ToyasCard.lean, 'card_holds'). Laid BY PROGRAM, IN A SANDBOX (cutbox-door.mjs). By AI agents, Wed Nov 11 2026. No macro, syntax, notation, axiom, sorry.
-/
import Derived.Test.YtdcmbjhjfdjdhaaDoorRows
import GoSem.ClaimSeven
namespace Go.Proofs.YtdcmbjhjfdjdhaaDoor
namespace Rows

/-- THE TIED CARD OF 'tintypelaw03.FaultTexts'. -/
def faultTextsCard : Claim7 := { stood := { row := faultTextsRow, standIns := [], harness := (true, "1ebad8b0063c92bd167a2d4ca316c7f0e36bc83b5495b6cc2c76d6c0a8cdc97a"), looks := false }, kinds := [], alts := [], laidByText := true, laidKinds := [.data, .data, .data], laidTests := true, laidLooks := .later }
def FaultTextsCardSaid : Prop := Claim7.holds Tryd.pinned (.plain (OpenSpec.ofChange faultTextsSpec)) faultTextsCard

/-- THE TIED CARD OF 'tintypelaw03.FaultParses'. -/
def faultParsesCard : Claim7 := { stood := { row := faultParsesRow, standIns := [], harness := (true, "1ebad8b0063c92bd167a2d4ca316c7f0e36bc83b5495b6cc2c76d6c0a8cdc97a"), looks := false }, kinds := [], alts := [], laidByText := true, laidKinds := [.data, .data, .data], laidTests := true, laidLooks := .later }
def FaultParsesCardSaid : Prop := Claim7.holds Tryd.pinned (.plain (OpenSpec.ofChange faultParsesSpec)) faultParsesCard

/-- THE TIED CARD OF 'tintypelaw03.FaultLatches'. -/
def faultLatchesCard : Claim7 := { stood := { row := faultLatchesRow, standIns := [], harness := (true, "1ebad8b0063c92bd167a2d4ca316c7f0e36bc83b5495b6cc2c76d6c0a8cdc97a"), looks := false }, kinds := [], alts := [], laidByText := true, laidKinds := [.data, .data, .data], laidTests := true, laidLooks := .later }
def FaultLatchesCardSaid : Prop := Claim7.holds Tryd.pinned (.plain (OpenSpec.ofChange faultLatchesSpec)) faultLatchesCard

/-- THE SECOND FORM's CARD OF 'tintypelaw03.FaultTexts'. -/
def faultTextsUptoCard : Claim7 := { stood := { row := faultTextsUptoRow, standIns := [], harness := (true, "1ebad8b0063c92bd167a2d4ca316c7f0e36bc83b5495b6cc2c76d6c0a8cdc97a"), looks := false }, kinds := [], alts := [], laidByText := true, laidKinds := [.data, .data, .data], laidTests := true, laidLooks := .later }
def FaultTextsUptoCardSaid : Prop := Claim7.holds Tryd.pinned (.plain (OpenSpec.upto faultTextsSpec)) faultTextsUptoCard

/-- THE SECOND FORM's CARD OF 'tintypelaw03.FaultParses'. -/
def faultParsesUptoCard : Claim7 := { stood := { row := faultParsesUptoRow, standIns := [], harness := (true, "1ebad8b0063c92bd167a2d4ca316c7f0e36bc83b5495b6cc2c76d6c0a8cdc97a"), looks := false }, kinds := [], alts := [], laidByText := true, laidKinds := [.data, .data, .data], laidTests := true, laidLooks := .later }
def FaultParsesUptoCardSaid : Prop := Claim7.holds Tryd.pinned (.plain (OpenSpec.upto faultParsesSpec)) faultParsesUptoCard

/-- THE SECOND FORM's CARD OF 'tintypelaw03.FaultLatches'. -/
def faultLatchesUptoCard : Claim7 := { stood := { row := faultLatchesUptoRow, standIns := [], harness := (true, "1ebad8b0063c92bd167a2d4ca316c7f0e36bc83b5495b6cc2c76d6c0a8cdc97a"), looks := false }, kinds := [], alts := [], laidByText := true, laidKinds := [.data, .data, .data], laidTests := true, laidLooks := .later }
def FaultLatchesUptoCardSaid : Prop := Claim7.holds Tryd.pinned (.plain (OpenSpec.upto faultLatchesSpec)) faultLatchesUptoCard
end Rows
end Go.Proofs.YtdcmbjhjfdjdhaaDoor
