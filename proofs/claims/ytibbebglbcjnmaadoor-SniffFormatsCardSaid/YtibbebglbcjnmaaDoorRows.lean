/-
  NARROWER THAN 'FOR EVERY INPUT', by the rows' own cells (each row's printed sentence says how): SniffFormats: laid · SniffNames: laid · SniffStops: laid.
  DERIVED. THE GIVEN ROWS OF THIS SEAT. 3 by the template 'for every input the law returns true; each argument reads behind the call as it read before'; 0 by the template 'total and deterministic' (their statements: YtibbebglbcjnmaaDoorTotals.lean).
  GIVEN WITH THE SEED: the statements are not yours to turn. If you find one false, say at which input.
  Laid BY PROGRAM, IN A SANDBOX (cutbox-rows.mjs): the forced cells as the released guide's own fill.sh prints them over the translation 1bbe23f08889f33a… (all of the seat's roots in one cut). By AI agents, Wed Nov 11 2026. No macro, syntax, notation, axiom, sorry.
-/
import Derived.Test.YtibbebglbcjnmaaDoorChecked
import GoSem.Claim
import GoSem.ClaimJoined
import GoSem.ClaimMapViews
import Derived.JoinedTies
import Derived.KernelRfl
namespace Go.Proofs.YtibbebglbcjnmaaDoor
/- THE CELL 'sum', in the pinned program and in every row, IS THE sha256 OF THE DUMP (.gsa) THAT YtibbebglbcjnmaaDoorProg.lean LOADS. Nothing in Lean hashes anything: it is a label: what it is worth is what the hold of that sum in a sandbox is worth. -/
noncomputable def Tryd.pinned : Pinned := { name := "ytibbebglbcjnmaadoor", sum := "1bbe23f08889f33a0cc9f714d3c583d2cb27739fe0464753308c0c1003ba7c97", checked := Tryd.checked }
namespace Rows
def none {H : Type} : Left H := { results := [], args := [] }

/- WHAT THE LISTED PACKAGE-LEVEL VARIABLES READ AS WHEN THE CALL BEGINS. Each datum BY PROGRAM (the guide's laid-datum.mjs) off the statement by which the dump's own 'gosem.cut.vars' lays the variable. In a bare row this is a premise. The card (YtibbebglbcjnmaaDoorCards.lean) ties it to the program's text. -/
def laid_tintype_sniff_order {H : Type} : DataW H := .agg [.lit (.int .i64 1), .lit (.int .i64 3), .lit (.int .i64 5), .lit (.int .i64 6), .lit (.int .i64 8), .lit (.int .i64 7), .lit (.int .i64 4), .lit (.int .i64 2)]

/-- 'tintypelaw30.SniffFormats': WHATEVER THE INPUT: true; the input reads as it did. -/
def sniffFormatsSpec : ChangeSpec := { name := "sniffFormats", fn := fun _ => fun
  | [d1, d2] => { results := [.lit (.bool true)], args := [d1, d2] }
  | _ => none }
def sniffFormatsRow : OpenClaim := { program := "ytibbebglbcjnmaadoor", sum := "1bbe23f08889f33a0cc9f714d3c583d2cb27739fe0464753308c0c1003ba7c97", func := "tintype/tintypelaw30.SniffFormats", spec := "sniffFormats", unfollowed := true, recurses := true, named := ["tintype/sniff.order"], apart := false, laid := [("tintype/sniff.order", laid_tintype_sniff_order)] }
def SniffFormatsSaid : Prop := sniffFormatsRow.holds Tryd.pinned (OpenSpec.ofChange sniffFormatsSpec)

/-- ITS FALSE NEIGHBOUR: 'it returns false'. Refute it at one input. -/
def sniffFormatsWrong : ChangeSpec := { name := "sniffFormats", fn := fun _ => fun
  | [d1, d2] => { results := [.lit (.bool false)], args := [d1, d2] }
  | _ => none }
def SniffFormatsWrongFalsely : Prop := sniffFormatsRow.holds Tryd.pinned (OpenSpec.ofChange sniffFormatsWrong)

/-- 'tintypelaw30.SniffNames': WHATEVER THE INPUT: true; the input reads as it did. -/
def sniffNamesSpec : ChangeSpec := { name := "sniffNames", fn := fun _ => fun
  | [d1, d2] => { results := [.lit (.bool true)], args := [d1, d2] }
  | _ => none }
def sniffNamesRow : OpenClaim := { program := "ytibbebglbcjnmaadoor", sum := "1bbe23f08889f33a0cc9f714d3c583d2cb27739fe0464753308c0c1003ba7c97", func := "tintype/tintypelaw30.SniffNames", spec := "sniffNames", unfollowed := true, recurses := true, named := ["tintype/sniff.order"], apart := false, laid := [("tintype/sniff.order", laid_tintype_sniff_order)] }
def SniffNamesSaid : Prop := sniffNamesRow.holds Tryd.pinned (OpenSpec.ofChange sniffNamesSpec)

/-- ITS FALSE NEIGHBOUR: 'it returns false'. Refute it at one input. -/
def sniffNamesWrong : ChangeSpec := { name := "sniffNames", fn := fun _ => fun
  | [d1, d2] => { results := [.lit (.bool false)], args := [d1, d2] }
  | _ => none }
def SniffNamesWrongFalsely : Prop := sniffNamesRow.holds Tryd.pinned (OpenSpec.ofChange sniffNamesWrong)

/-- 'tintypelaw30.SniffStops': WHATEVER THE INPUT: true; the input reads as it did. -/
def sniffStopsSpec : ChangeSpec := { name := "sniffStops", fn := fun _ => fun
  | [d] => { results := [.lit (.bool true)], args := [d] }
  | _ => none }
def sniffStopsRow : OpenClaim := { program := "ytibbebglbcjnmaadoor", sum := "1bbe23f08889f33a0cc9f714d3c583d2cb27739fe0464753308c0c1003ba7c97", func := "tintype/tintypelaw30.SniffStops", spec := "sniffStops", unfollowed := true, recurses := true, named := ["tintype/sniff.order"], apart := false, laid := [("tintype/sniff.order", laid_tintype_sniff_order)] }
def SniffStopsSaid : Prop := sniffStopsRow.holds Tryd.pinned (OpenSpec.ofChange sniffStopsSpec)

/-- ITS FALSE NEIGHBOUR: 'it returns false'. Refute it at one input. -/
def sniffStopsWrong : ChangeSpec := { name := "sniffStops", fn := fun _ => fun
  | [d] => { results := [.lit (.bool false)], args := [d] }
  | _ => none }
def SniffStopsWrongFalsely : Prop := sniffStopsRow.holds Tryd.pinned (OpenSpec.ofChange sniffStopsWrong)

/- THE SECOND FORM. 'bulk': how many values and letters a reading holds, each counted each time it is reached (what is shared counts as often as it is met; a slice's spare places count too). A statement '..UptoSaid' is the law's where the arguments, and the package variables that the reading takes, are together of bulk at most 1048576: NARROWER than '..Said'. Prove '..Said' where nothing that the law and all that it calls make is longer than what came in: it says more and counts as full. Else prove '..UptoSaid'. A law counts once. -/
mutual
def uptoBulk {H : Type} : DataW H → Nat
  | .lit (.string bytes) => bytes.length + 1
  | .lit _ => 1
  | .nil => 1
  | .ptr d => uptoBulk d + 1
  | .slice elems spare => uptoBulkAll elems + uptoBulkAll spare + 1
  | .agg parts => uptoBulkAll parts + 1
  | .iface _ d => uptoBulk d + 1
  | .map entries => uptoBulkEntries entries + 1
  | .held _ => 1
def uptoBulkAll {H : Type} : List (DataW H) → Nat
  | [] => 0
  | d :: r => uptoBulk d + uptoBulkAll r
def uptoBulkEntries {H : Type} : List (Lit × DataW H) → Nat
  | [] => 0
  | x :: r => uptoBulkEntry x + uptoBulkEntries r
def uptoBulkEntry {H : Type} : Lit × DataW H → Nat
  | (.string bytes, d) => bytes.length + uptoBulk d + 1
  | (_, d) => uptoBulk d + 1
 end
def uptoSmall : (H : Type) → List (DataW H) → Bool := fun _ ds => decide (uptoBulkAll ds ≤ 1048576)
def OpenSpec.upto (s : _root_.Go.ChangeSpec) : _root_.Go.OpenSpec := { _root_.Go.OpenSpec.ofChange s with cond := some uptoSmall }

/-- 'tintypelaw30.SniffFormats', WHERE WHAT IT READS IS OF BULK AT MOST 1048576: true; the input reads as it did. -/
def sniffFormatsUptoRow : OpenClaim := { program := "ytibbebglbcjnmaadoor", sum := "1bbe23f08889f33a0cc9f714d3c583d2cb27739fe0464753308c0c1003ba7c97", func := "tintype/tintypelaw30.SniffFormats", spec := "sniffFormats", unfollowed := true, recurses := true, named := ["tintype/sniff.order"], apart := false, laid := [("tintype/sniff.order", laid_tintype_sniff_order)], narrowed := true }
def SniffFormatsUptoSaid : Prop := sniffFormatsUptoRow.holds Tryd.pinned (OpenSpec.upto sniffFormatsSpec)

/-- 'tintypelaw30.SniffNames', WHERE WHAT IT READS IS OF BULK AT MOST 1048576: true; the input reads as it did. -/
def sniffNamesUptoRow : OpenClaim := { program := "ytibbebglbcjnmaadoor", sum := "1bbe23f08889f33a0cc9f714d3c583d2cb27739fe0464753308c0c1003ba7c97", func := "tintype/tintypelaw30.SniffNames", spec := "sniffNames", unfollowed := true, recurses := true, named := ["tintype/sniff.order"], apart := false, laid := [("tintype/sniff.order", laid_tintype_sniff_order)], narrowed := true }
def SniffNamesUptoSaid : Prop := sniffNamesUptoRow.holds Tryd.pinned (OpenSpec.upto sniffNamesSpec)

/-- 'tintypelaw30.SniffStops', WHERE WHAT IT READS IS OF BULK AT MOST 1048576: true; the input reads as it did. -/
def sniffStopsUptoRow : OpenClaim := { program := "ytibbebglbcjnmaadoor", sum := "1bbe23f08889f33a0cc9f714d3c583d2cb27739fe0464753308c0c1003ba7c97", func := "tintype/tintypelaw30.SniffStops", spec := "sniffStops", unfollowed := true, recurses := true, named := ["tintype/sniff.order"], apart := false, laid := [("tintype/sniff.order", laid_tintype_sniff_order)], narrowed := true }
def SniffStopsUptoSaid : Prop := sniffStopsUptoRow.holds Tryd.pinned (OpenSpec.upto sniffStopsSpec)

end Rows
end Go.Proofs.YtibbebglbcjnmaaDoor
