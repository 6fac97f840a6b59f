/- Package raster: the columns of two pixels change places; the chapter's example. -/
import Derived.Test.YtjdhlehpoclnjaaGreatRas3
namespace Go.Proofs.YtjdhlehpoclnjaaGreat.Ra
open Go.ChangeShapes Go.WideShapes Go.ChangeAt Go.RowKit
open Go.Proofs.YtjdhlehpoclnjaaGreat.Le Go.Proofs.YtjdhlehpoclnjaaGreat.Bu Go.Proofs.YtjdhlehpoclnjaaGreat.Nu
set_option linter.unusedVariables false

def q0 : St := { w := 2, h := 1, b := 8, s := 9, by_ := 0, pk := 0, st := 0, r := 0, a := 0 }
theorem q0_new : St.new 2 1 8 9 = q0 := rfl
theorem q0_ok : q0.Ok := ⟨by decide, by decide, by decide, by decide, by decide, by decide, by decide, by decide, by decide, by decide, by decide, by decide, by decide⟩
def q1 : St := { q0 with by_ := 8, pk := 8 }
theorem q1_ok : q1.Ok := ⟨by decide, by decide, by decide, by decide, by decide, by decide, by decide, by decide, by decide, by decide, by decide, by decide, by decide⟩
def q2 : St := { q1 with st := 1 }
theorem q2_ok : q2.Ok := ⟨by decide, by decide, by decide, by decide, by decide, by decide, by decide, by decide, by decide, by decide, by decide, by decide, by decide⟩

/-- The example's bytes, behind the pixel and the flip. -/
def s1 : ByteArray := putS (rep 0 8) (four 255 0 0 255) 0
theorem s1_flip : bt (swp s1 0 4) 4 = 255 ∧ bt (swp s1 0 4) 5 = 0 ∧ bt (swp s1 0 4) 6 = 0 ∧ bt (swp s1 0 4) 7 = 255 := by decide +kernel

end Go.Proofs.YtjdhlehpoclnjaaGreat.Ra
