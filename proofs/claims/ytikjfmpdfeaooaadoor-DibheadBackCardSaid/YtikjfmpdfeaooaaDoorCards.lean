/-
  DERIVED. GIVEN WITH THE SEED: THE CARDS: each row of YtikjfmpdfeaooaaDoorRows.lean that lists a variable, with what it lists TIED to the program's text (the seventh form; the later family's looks); each row that meets fmt, with fmt's text TOLD by the authors' own Lean function (tested against real Go, not proved from fmt's source: count such statements apart). THE CARD IS WHAT COUNTS. Prove the row's statement (the work); the ties are given (YtikjfmpdfeaooaaDoorTie.lean); close each card by the builder's one call (the guide's Derived/Test/ToyasCard.lean, 'card_holds'). Laid BY PROGRAM, IN A SANDBOX (cutbox-door.mjs). By AI agents, Wed Nov 11 2026. No macro, syntax, notation, axiom, sorry.
-/
import Derived.Test.YtikjfmpdfeaooaaDoorRows
import GoSem.ClaimSeven
namespace Go.Proofs.YtikjfmpdfeaooaaDoor
namespace Rows

/-- THE TIED CARD OF 'tintypelaw20.DibheadReads'. -/
def dibheadReadsCard : Claim7 := { stood := { row := dibheadReadsRow, standIns := [], harness := (true, "b677b2c32837bdb1edd41f28232dfb76bffdfc7e5ea25afc59f197e5e9d9fed0"), looks := false }, kinds := [], alts := [], laidByText := true, laidKinds := [.data], laidTests := true, laidLooks := .later }
def DibheadReadsCardSaid : Prop := Claim7.holds Tryd.pinned (.plain (OpenSpec.ofChange dibheadReadsSpec)) dibheadReadsCard

/-- THE TIED CARD OF 'tintypelaw20.DibheadBytes'. -/
def dibheadBytesCard : Claim7 := { stood := { row := dibheadBytesRow, standIns := [], harness := (true, "b677b2c32837bdb1edd41f28232dfb76bffdfc7e5ea25afc59f197e5e9d9fed0"), looks := false }, kinds := [], alts := [], laidByText := true, laidKinds := [.data], laidTests := true, laidLooks := .later }
def DibheadBytesCardSaid : Prop := Claim7.holds Tryd.pinned (.plain (OpenSpec.ofChange dibheadBytesSpec)) dibheadBytesCard

/-- THE TIED CARD OF 'tintypelaw20.DibheadBack'. -/
def dibheadBackCard : Claim7 := { stood := { row := dibheadBackRow, standIns := [], harness := (true, "b677b2c32837bdb1edd41f28232dfb76bffdfc7e5ea25afc59f197e5e9d9fed0"), looks := false }, kinds := [], alts := [], laidByText := true, laidKinds := [.data], laidTests := true, laidLooks := .later }
def DibheadBackCardSaid : Prop := Claim7.holds Tryd.pinned (.plain (OpenSpec.ofChange dibheadBackSpec)) dibheadBackCard

/-- THE TIED CARD OF 'tintypelaw20.DibheadKnown'. -/
def dibheadKnownCard : Claim7 := { stood := { row := dibheadKnownRow, standIns := [], harness := (true, "b677b2c32837bdb1edd41f28232dfb76bffdfc7e5ea25afc59f197e5e9d9fed0"), looks := false }, kinds := [], alts := [], laidByText := true, laidKinds := [.data], laidTests := true, laidLooks := .later }
def DibheadKnownCardSaid : Prop := Claim7.holds Tryd.pinned (.plain (OpenSpec.ofChange dibheadKnownSpec)) dibheadKnownCard

/-- THE SECOND FORM's CARD OF 'tintypelaw20.DibheadReads'. -/
def dibheadReadsUptoCard : Claim7 := { stood := { row := dibheadReadsUptoRow, standIns := [], harness := (true, "b677b2c32837bdb1edd41f28232dfb76bffdfc7e5ea25afc59f197e5e9d9fed0"), looks := false }, kinds := [], alts := [], laidByText := true, laidKinds := [.data], laidTests := true, laidLooks := .later }
def DibheadReadsUptoCardSaid : Prop := Claim7.holds Tryd.pinned (.plain (OpenSpec.upto dibheadReadsSpec)) dibheadReadsUptoCard

/-- THE SECOND FORM's CARD OF 'tintypelaw20.DibheadBytes'. -/
def dibheadBytesUptoCard : Claim7 := { stood := { row := dibheadBytesUptoRow, standIns := [], harness := (true, "b677b2c32837bdb1edd41f28232dfb76bffdfc7e5ea25afc59f197e5e9d9fed0"), looks := false }, kinds := [], alts := [], laidByText := true, laidKinds := [.data], laidTests := true, laidLooks := .later }
def DibheadBytesUptoCardSaid : Prop := Claim7.holds Tryd.pinned (.plain (OpenSpec.upto dibheadBytesSpec)) dibheadBytesUptoCard

/-- THE SECOND FORM's CARD OF 'tintypelaw20.DibheadBack'. -/
def dibheadBackUptoCard : Claim7 := { stood := { row := dibheadBackUptoRow, standIns := [], harness := (true, "b677b2c32837bdb1edd41f28232dfb76bffdfc7e5ea25afc59f197e5e9d9fed0"), looks := false }, kinds := [], alts := [], laidByText := true, laidKinds := [.data], laidTests := true, laidLooks := .later }
def DibheadBackUptoCardSaid : Prop := Claim7.holds Tryd.pinned (.plain (OpenSpec.upto dibheadBackSpec)) dibheadBackUptoCard

/-- THE SECOND FORM's CARD OF 'tintypelaw20.DibheadKnown'. -/
def dibheadKnownUptoCard : Claim7 := { stood := { row := dibheadKnownUptoRow, standIns := [], harness := (true, "b677b2c32837bdb1edd41f28232dfb76bffdfc7e5ea25afc59f197e5e9d9fed0"), looks := false }, kinds := [], alts := [], laidByText := true, laidKinds := [.data], laidTests := true, laidLooks := .later }
def DibheadKnownUptoCardSaid : Prop := Claim7.holds Tryd.pinned (.plain (OpenSpec.upto dibheadKnownSpec)) dibheadKnownUptoCard
end Rows
end Go.Proofs.YtikjfmpdfeaooaaDoor
