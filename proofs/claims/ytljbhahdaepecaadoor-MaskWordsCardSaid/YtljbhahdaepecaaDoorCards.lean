/-
  DERIVED. GIVEN WITH THE SEED: THE CARDS: each row of YtljbhahdaepecaaDoorRows.lean that lists a variable, with what it lists TIED to the program's text (the seventh form; the later family's looks); each row that meets fmt, with fmt's text TOLD by the authors' own Lean function (tested against real Go, not proved from fmt's source: count such statements apart). THE CARD IS WHAT COUNTS. Prove the row's statement (the work); the ties are given (YtljbhahdaepecaaDoorTie.lean); close each card by the builder's one call (the guide's Derived/Test/ToyasCard.lean, 'card_holds'). Laid BY PROGRAM, IN A SANDBOX (cutbox-door.mjs). By AI agents, Wed Nov 11 2026. No macro, syntax, notation, axiom, sorry.
-/
import Derived.Test.YtljbhahdaepecaaDoorRows
import GoSem.ClaimSeven
namespace Go.Proofs.YtljbhahdaepecaaDoor
namespace Rows

/-- THE TIED CARD OF 'tintypelaw09.MaskFinds'. -/
def maskFindsCard : Claim7 := { stood := { row := maskFindsRow, standIns := [], harness := (true, "8dc3e853ef43530b74367069cb8f89fe63b29e80f45b492d141f0c635f009ef5"), looks := false }, kinds := [], alts := [], laidByText := true, laidKinds := [.data], laidTests := true, laidLooks := .later }
def MaskFindsCardSaid : Prop := Claim7.holds Tryd.pinned (.plain (OpenSpec.ofChange maskFindsSpec)) maskFindsCard

/-- THE TIED CARD OF 'tintypelaw09.MaskFours'. -/
def maskFoursCard : Claim7 := { stood := { row := maskFoursRow, standIns := [], harness := (true, "8dc3e853ef43530b74367069cb8f89fe63b29e80f45b492d141f0c635f009ef5"), looks := false }, kinds := [], alts := [], laidByText := true, laidKinds := [.data], laidTests := true, laidLooks := .later }
def MaskFoursCardSaid : Prop := Claim7.holds Tryd.pinned (.plain (OpenSpec.ofChange maskFoursSpec)) maskFoursCard

/-- THE TIED CARD OF 'tintypelaw09.MaskWords'. -/
def maskWordsCard : Claim7 := { stood := { row := maskWordsRow, standIns := [], harness := (true, "8dc3e853ef43530b74367069cb8f89fe63b29e80f45b492d141f0c635f009ef5"), looks := false }, kinds := [], alts := [], laidByText := true, laidKinds := [.data], laidTests := true, laidLooks := .later }
def MaskWordsCardSaid : Prop := Claim7.holds Tryd.pinned (.plain (OpenSpec.ofChange maskWordsSpec)) maskWordsCard

/-- THE TIED CARD OF 'tintypelaw09.MaskFives'. -/
def maskFivesCard : Claim7 := { stood := { row := maskFivesRow, standIns := [], harness := (true, "8dc3e853ef43530b74367069cb8f89fe63b29e80f45b492d141f0c635f009ef5"), looks := false }, kinds := [], alts := [], laidByText := true, laidKinds := [.data], laidTests := true, laidLooks := .later }
def MaskFivesCardSaid : Prop := Claim7.holds Tryd.pinned (.plain (OpenSpec.ofChange maskFivesSpec)) maskFivesCard

/-- THE TIED CARD OF 'tintypelaw09.MaskCommon'. -/
def maskCommonCard : Claim7 := { stood := { row := maskCommonRow, standIns := [], harness := (true, "8dc3e853ef43530b74367069cb8f89fe63b29e80f45b492d141f0c635f009ef5"), looks := false }, kinds := [], alts := [], laidByText := true, laidKinds := [.data], laidTests := true, laidLooks := .later }
def MaskCommonCardSaid : Prop := Claim7.holds Tryd.pinned (.plain (OpenSpec.ofChange maskCommonSpec)) maskCommonCard

/-- THE SECOND FORM's CARD OF 'tintypelaw09.MaskFinds'. -/
def maskFindsUptoCard : Claim7 := { stood := { row := maskFindsUptoRow, standIns := [], harness := (true, "8dc3e853ef43530b74367069cb8f89fe63b29e80f45b492d141f0c635f009ef5"), looks := false }, kinds := [], alts := [], laidByText := true, laidKinds := [.data], laidTests := true, laidLooks := .later }
def MaskFindsUptoCardSaid : Prop := Claim7.holds Tryd.pinned (.plain (OpenSpec.upto maskFindsSpec)) maskFindsUptoCard

/-- THE SECOND FORM's CARD OF 'tintypelaw09.MaskFours'. -/
def maskFoursUptoCard : Claim7 := { stood := { row := maskFoursUptoRow, standIns := [], harness := (true, "8dc3e853ef43530b74367069cb8f89fe63b29e80f45b492d141f0c635f009ef5"), looks := false }, kinds := [], alts := [], laidByText := true, laidKinds := [.data], laidTests := true, laidLooks := .later }
def MaskFoursUptoCardSaid : Prop := Claim7.holds Tryd.pinned (.plain (OpenSpec.upto maskFoursSpec)) maskFoursUptoCard

/-- THE SECOND FORM's CARD OF 'tintypelaw09.MaskWords'. -/
def maskWordsUptoCard : Claim7 := { stood := { row := maskWordsUptoRow, standIns := [], harness := (true, "8dc3e853ef43530b74367069cb8f89fe63b29e80f45b492d141f0c635f009ef5"), looks := false }, kinds := [], alts := [], laidByText := true, laidKinds := [.data], laidTests := true, laidLooks := .later }
def MaskWordsUptoCardSaid : Prop := Claim7.holds Tryd.pinned (.plain (OpenSpec.upto maskWordsSpec)) maskWordsUptoCard

/-- THE SECOND FORM's CARD OF 'tintypelaw09.MaskFives'. -/
def maskFivesUptoCard : Claim7 := { stood := { row := maskFivesUptoRow, standIns := [], harness := (true, "8dc3e853ef43530b74367069cb8f89fe63b29e80f45b492d141f0c635f009ef5"), looks := false }, kinds := [], alts := [], laidByText := true, laidKinds := [.data], laidTests := true, laidLooks := .later }
def MaskFivesUptoCardSaid : Prop := Claim7.holds Tryd.pinned (.plain (OpenSpec.upto maskFivesSpec)) maskFivesUptoCard

/-- THE SECOND FORM's CARD OF 'tintypelaw09.MaskCommon'. -/
def maskCommonUptoCard : Claim7 := { stood := { row := maskCommonUptoRow, standIns := [], harness := (true, "8dc3e853ef43530b74367069cb8f89fe63b29e80f45b492d141f0c635f009ef5"), looks := false }, kinds := [], alts := [], laidByText := true, laidKinds := [.data], laidTests := true, laidLooks := .later }
def MaskCommonUptoCardSaid : Prop := Claim7.holds Tryd.pinned (.plain (OpenSpec.upto maskCommonSpec)) maskCommonUptoCard
end Rows
end Go.Proofs.YtljbhahdaepecaaDoor
