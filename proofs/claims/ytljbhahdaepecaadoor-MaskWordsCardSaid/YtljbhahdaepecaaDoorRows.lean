/-
  NARROWER THAN 'FOR EVERY INPUT', by the rows' own cells (each row's printed sentence says how): MaskFinds: laid · MaskFours: laid · MaskWords: laid · MaskFives: laid · MaskCommon: laid.
  DERIVED. THE GIVEN ROWS OF THIS SEAT. 5 by the template 'for every input the law returns true; each argument reads behind the call as it read before'; 0 by the template 'total and deterministic' (their statements: YtljbhahdaepecaaDoorTotals.lean).
  GIVEN WITH THE SEED: the statements are not yours to turn. If you find one false, say at which input.
  Laid BY PROGRAM, IN A SANDBOX (cutbox-rows.mjs): the forced cells as the released guide's own fill.sh prints them over the translation 3859ddc2f41f4398… (all of the seat's roots in one cut). By AI agents, Wed Nov 11 2026. No macro, syntax, notation, axiom, sorry.
-/
import Derived.Test.YtljbhahdaepecaaDoorChecked
import GoSem.Claim
import GoSem.ClaimJoined
import GoSem.ClaimMapViews
import Derived.JoinedTies
import Derived.KernelRfl
namespace Go.Proofs.YtljbhahdaepecaaDoor
/- THE CELL 'sum', in the pinned program and in every row, IS THE sha256 OF THE DUMP (.gsa) THAT YtljbhahdaepecaaDoorProg.lean LOADS. Nothing in Lean hashes anything: it is a label: what it is worth is what the hold of that sum in a sandbox is worth. -/
noncomputable def Tryd.pinned : Pinned := { name := "ytljbhahdaepecaadoor", sum := "3859ddc2f41f4398fae2d0dee5e204decd7b029006ef9ffde221115ee610183f", checked := Tryd.checked }
namespace Rows
def none {H : Type} : Left H := { results := [], args := [] }

/- WHAT THE LISTED PACKAGE-LEVEL VARIABLES READ AS WHEN THE CALL BEGINS. Each datum BY PROGRAM (the guide's laid-datum.mjs) off the statement by which the dump's own 'gosem.cut.vars' lays the variable. In a bare row this is a premise. The card (YtljbhahdaepecaaDoorCards.lean) ties it to the program's text. -/
def laid_math_bits_deBruijn32tab {H : Type} : DataW H := .agg [.lit (.int .u8 0), .lit (.int .u8 1), .lit (.int .u8 28), .lit (.int .u8 2), .lit (.int .u8 29), .lit (.int .u8 14), .lit (.int .u8 24), .lit (.int .u8 3), .lit (.int .u8 30), .lit (.int .u8 22), .lit (.int .u8 20), .lit (.int .u8 15), .lit (.int .u8 25), .lit (.int .u8 17), .lit (.int .u8 4), .lit (.int .u8 8), .lit (.int .u8 31), .lit (.int .u8 27), .lit (.int .u8 13), .lit (.int .u8 23), .lit (.int .u8 21), .lit (.int .u8 19), .lit (.int .u8 16), .lit (.int .u8 7), .lit (.int .u8 26), .lit (.int .u8 12), .lit (.int .u8 18), .lit (.int .u8 6), .lit (.int .u8 11), .lit (.int .u8 5), .lit (.int .u8 10), .lit (.int .u8 9)]

/-- 'tintypelaw09.MaskFinds': WHATEVER THE INPUT: true; the input reads as it did. -/
def maskFindsSpec : ChangeSpec := { name := "maskFinds", fn := fun _ => fun
  | [d1, d2, d3] => { results := [.lit (.bool true)], args := [d1, d2, d3] }
  | _ => none }
def maskFindsRow : OpenClaim := { program := "ytljbhahdaepecaadoor", sum := "3859ddc2f41f4398fae2d0dee5e204decd7b029006ef9ffde221115ee610183f", func := "tintype/tintypelaw09.MaskFinds", spec := "maskFinds", named := ["math/bits.deBruijn32tab"], apart := false, laid := [("math/bits.deBruijn32tab", laid_math_bits_deBruijn32tab)] }
def MaskFindsSaid : Prop := maskFindsRow.holds Tryd.pinned (OpenSpec.ofChange maskFindsSpec)

/-- ITS FALSE NEIGHBOUR: 'it returns false'. Refute it at one input. -/
def maskFindsWrong : ChangeSpec := { name := "maskFinds", fn := fun _ => fun
  | [d1, d2, d3] => { results := [.lit (.bool false)], args := [d1, d2, d3] }
  | _ => none }
def MaskFindsWrongFalsely : Prop := maskFindsRow.holds Tryd.pinned (OpenSpec.ofChange maskFindsWrong)

/-- 'tintypelaw09.MaskFours': WHATEVER THE INPUT: true; the input reads as it did. -/
def maskFoursSpec : ChangeSpec := { name := "maskFours", fn := fun _ => fun
  | [d1, d2, d3, d4, d5, d6] => { results := [.lit (.bool true)], args := [d1, d2, d3, d4, d5, d6] }
  | _ => none }
def maskFoursRow : OpenClaim := { program := "ytljbhahdaepecaadoor", sum := "3859ddc2f41f4398fae2d0dee5e204decd7b029006ef9ffde221115ee610183f", func := "tintype/tintypelaw09.MaskFours", spec := "maskFours", named := ["math/bits.deBruijn32tab"], apart := false, laid := [("math/bits.deBruijn32tab", laid_math_bits_deBruijn32tab)] }
def MaskFoursSaid : Prop := maskFoursRow.holds Tryd.pinned (OpenSpec.ofChange maskFoursSpec)

/-- ITS FALSE NEIGHBOUR: 'it returns false'. Refute it at one input. -/
def maskFoursWrong : ChangeSpec := { name := "maskFours", fn := fun _ => fun
  | [d1, d2, d3, d4, d5, d6] => { results := [.lit (.bool false)], args := [d1, d2, d3, d4, d5, d6] }
  | _ => none }
def MaskFoursWrongFalsely : Prop := maskFoursRow.holds Tryd.pinned (OpenSpec.ofChange maskFoursWrong)

/-- 'tintypelaw09.MaskWords': WHATEVER THE INPUT: true; the input reads as it did. -/
def maskWordsSpec : ChangeSpec := { name := "maskWords", fn := fun _ => fun
  | [d1, d2, d3] => { results := [.lit (.bool true)], args := [d1, d2, d3] }
  | _ => none }
def maskWordsRow : OpenClaim := { program := "ytljbhahdaepecaadoor", sum := "3859ddc2f41f4398fae2d0dee5e204decd7b029006ef9ffde221115ee610183f", func := "tintype/tintypelaw09.MaskWords", spec := "maskWords", named := ["math/bits.deBruijn32tab"], apart := false, laid := [("math/bits.deBruijn32tab", laid_math_bits_deBruijn32tab)] }
def MaskWordsSaid : Prop := maskWordsRow.holds Tryd.pinned (OpenSpec.ofChange maskWordsSpec)

/-- ITS FALSE NEIGHBOUR: 'it returns false'. Refute it at one input. -/
def maskWordsWrong : ChangeSpec := { name := "maskWords", fn := fun _ => fun
  | [d1, d2, d3] => { results := [.lit (.bool false)], args := [d1, d2, d3] }
  | _ => none }
def MaskWordsWrongFalsely : Prop := maskWordsRow.holds Tryd.pinned (OpenSpec.ofChange maskWordsWrong)

/-- 'tintypelaw09.MaskFives': WHATEVER THE INPUT: true; the input reads as it did. -/
def maskFivesSpec : ChangeSpec := { name := "maskFives", fn := fun _ => fun
  | [d1, d2] => { results := [.lit (.bool true)], args := [d1, d2] }
  | _ => none }
def maskFivesRow : OpenClaim := { program := "ytljbhahdaepecaadoor", sum := "3859ddc2f41f4398fae2d0dee5e204decd7b029006ef9ffde221115ee610183f", func := "tintype/tintypelaw09.MaskFives", spec := "maskFives", named := ["math/bits.deBruijn32tab"], apart := false, laid := [("math/bits.deBruijn32tab", laid_math_bits_deBruijn32tab)] }
def MaskFivesSaid : Prop := maskFivesRow.holds Tryd.pinned (OpenSpec.ofChange maskFivesSpec)

/-- ITS FALSE NEIGHBOUR: 'it returns false'. Refute it at one input. -/
def maskFivesWrong : ChangeSpec := { name := "maskFives", fn := fun _ => fun
  | [d1, d2] => { results := [.lit (.bool false)], args := [d1, d2] }
  | _ => none }
def MaskFivesWrongFalsely : Prop := maskFivesRow.holds Tryd.pinned (OpenSpec.ofChange maskFivesWrong)

/-- 'tintypelaw09.MaskCommon': WHATEVER THE INPUT: true; the input reads as it did. -/
def maskCommonSpec : ChangeSpec := { name := "maskCommon", fn := fun _ => fun
  | [d1, d2] => { results := [.lit (.bool true)], args := [d1, d2] }
  | _ => none }
def maskCommonRow : OpenClaim := { program := "ytljbhahdaepecaadoor", sum := "3859ddc2f41f4398fae2d0dee5e204decd7b029006ef9ffde221115ee610183f", func := "tintype/tintypelaw09.MaskCommon", spec := "maskCommon", named := ["math/bits.deBruijn32tab"], apart := false, laid := [("math/bits.deBruijn32tab", laid_math_bits_deBruijn32tab)] }
def MaskCommonSaid : Prop := maskCommonRow.holds Tryd.pinned (OpenSpec.ofChange maskCommonSpec)

/-- ITS FALSE NEIGHBOUR: 'it returns false'. Refute it at one input. -/
def maskCommonWrong : ChangeSpec := { name := "maskCommon", fn := fun _ => fun
  | [d1, d2] => { results := [.lit (.bool false)], args := [d1, d2] }
  | _ => none }
def MaskCommonWrongFalsely : Prop := maskCommonRow.holds Tryd.pinned (OpenSpec.ofChange maskCommonWrong)

/- THE SECOND FORM. 'bulk': how many values and letters a reading holds, each counted each time it is reached (what is shared counts as often as it is met; a slice's spare places count too). A statement '..UptoSaid' is the law's where the arguments, and the package variables that the reading takes, are together of bulk at most 1048576: NARROWER than '..Said'. Prove '..Said' where nothing that the law and all that it calls make is longer than what came in: it says more and counts as full. Else prove '..UptoSaid'. A law counts once. -/
mutual
def uptoBulk {H : Type} : DataW H → Nat
  | .lit (.string bytes) => bytes.length + 1
  | .lit _ => 1
  | .nil => 1
  | .ptr d => uptoBulk d + 1
  | .slice elems spare => uptoBulkAll elems + uptoBulkAll spare + 1
  | .agg parts => uptoBulkAll parts + 1
  | .iface _ d => uptoBulk d + 1
  | .map entries => uptoBulkEntries entries + 1
  | .held _ => 1
def uptoBulkAll {H : Type} : List (DataW H) → Nat
  | [] => 0
  | d :: r => uptoBulk d + uptoBulkAll r
def uptoBulkEntries {H : Type} : List (Lit × DataW H) → Nat
  | [] => 0
  | x :: r => uptoBulkEntry x + uptoBulkEntries r
def uptoBulkEntry {H : Type} : Lit × DataW H → Nat
  | (.string bytes, d) => bytes.length + uptoBulk d + 1
  | (_, d) => uptoBulk d + 1
 end
def uptoSmall : (H : Type) → List (DataW H) → Bool := fun _ ds => decide (uptoBulkAll ds ≤ 1048576)
def OpenSpec.upto (s : _root_.Go.ChangeSpec) : _root_.Go.OpenSpec := { _root_.Go.OpenSpec.ofChange s with cond := some uptoSmall }

/-- 'tintypelaw09.MaskFinds', WHERE WHAT IT READS IS OF BULK AT MOST 1048576: true; the input reads as it did. -/
def maskFindsUptoRow : OpenClaim := { program := "ytljbhahdaepecaadoor", sum := "3859ddc2f41f4398fae2d0dee5e204decd7b029006ef9ffde221115ee610183f", func := "tintype/tintypelaw09.MaskFinds", spec := "maskFinds", named := ["math/bits.deBruijn32tab"], apart := false, laid := [("math/bits.deBruijn32tab", laid_math_bits_deBruijn32tab)], narrowed := true }
def MaskFindsUptoSaid : Prop := maskFindsUptoRow.holds Tryd.pinned (OpenSpec.upto maskFindsSpec)

/-- 'tintypelaw09.MaskFours', WHERE WHAT IT READS IS OF BULK AT MOST 1048576: true; the input reads as it did. -/
def maskFoursUptoRow : OpenClaim := { program := "ytljbhahdaepecaadoor", sum := "3859ddc2f41f4398fae2d0dee5e204decd7b029006ef9ffde221115ee610183f", func := "tintype/tintypelaw09.MaskFours", spec := "maskFours", named := ["math/bits.deBruijn32tab"], apart := false, laid := [("math/bits.deBruijn32tab", laid_math_bits_deBruijn32tab)], narrowed := true }
def MaskFoursUptoSaid : Prop := maskFoursUptoRow.holds Tryd.pinned (OpenSpec.upto maskFoursSpec)

/-- 'tintypelaw09.MaskWords', WHERE WHAT IT READS IS OF BULK AT MOST 1048576: true; the input reads as it did. -/
def maskWordsUptoRow : OpenClaim := { program := "ytljbhahdaepecaadoor", sum := "3859ddc2f41f4398fae2d0dee5e204decd7b029006ef9ffde221115ee610183f", func := "tintype/tintypelaw09.MaskWords", spec := "maskWords", named := ["math/bits.deBruijn32tab"], apart := false, laid := [("math/bits.deBruijn32tab", laid_math_bits_deBruijn32tab)], narrowed := true }
def MaskWordsUptoSaid : Prop := maskWordsUptoRow.holds Tryd.pinned (OpenSpec.upto maskWordsSpec)

/-- 'tintypelaw09.MaskFives', WHERE WHAT IT READS IS OF BULK AT MOST 1048576: true; the input reads as it did. -/
def maskFivesUptoRow : OpenClaim := { program := "ytljbhahdaepecaadoor", sum := "3859ddc2f41f4398fae2d0dee5e204decd7b029006ef9ffde221115ee610183f", func := "tintype/tintypelaw09.MaskFives", spec := "maskFives", named := ["math/bits.deBruijn32tab"], apart := false, laid := [("math/bits.deBruijn32tab", laid_math_bits_deBruijn32tab)], narrowed := true }
def MaskFivesUptoSaid : Prop := maskFivesUptoRow.holds Tryd.pinned (OpenSpec.upto maskFivesSpec)

/-- 'tintypelaw09.MaskCommon', WHERE WHAT IT READS IS OF BULK AT MOST 1048576: true; the input reads as it did. -/
def maskCommonUptoRow : OpenClaim := { program := "ytljbhahdaepecaadoor", sum := "3859ddc2f41f4398fae2d0dee5e204decd7b029006ef9ffde221115ee610183f", func := "tintype/tintypelaw09.MaskCommon", spec := "maskCommon", named := ["math/bits.deBruijn32tab"], apart := false, laid := [("math/bits.deBruijn32tab", laid_math_bits_deBruijn32tab)], narrowed := true }
def MaskCommonUptoSaid : Prop := maskCommonUptoRow.holds Tryd.pinned (OpenSpec.upto maskCommonSpec)

end Rows
end Go.Proofs.YtljbhahdaepecaaDoor
