/- Layer 11: the document's Number and Digit, walked. -/
import Derived.Test.YtfhcefglefkakaaGreatDoorTok3
namespace Go.Proofs.YtfhcefglefkakaaGreatDoor.Tk
open Go.ChangeShapes Go.WideShapes Go.ChangeAt Go.RowKit
open Go.Proofs.YtfhcefglefkakaaGreatDoor.Le
set_option linter.unusedVariables false

/-- What the document says, as a value. -/
def gotA (g : Got) : Value := .agg #[.int .i64 g.v, .int .i64 g.from_, .int .i64 g.next, .int .i64 g.kind, .int .i64 g.place]
def zero5 : Array Value := #[.int .i64 0, .int .i64 0, .int .i64 0, .int .i64 0, .int .i64 0]

theorem gotV_none {s : ByteArray} {k f : Nat} (hf : overV s k = f) (h : s.size ≤ f) : gotV s k = ⟨0, 0, 0, 1, s.size⟩ := by
  unfold gotV
  rw [hf, if_pos h]
theorem gotV_bad {s : ByteArray} {k f v : Nat} (hf : overV s k = f) (h : ¬ s.size ≤ f) (h1 : numV s f 0 = (v, f)) : gotV s k = ⟨0, 0, 0, 2, f⟩ := by
  unfold gotV
  rw [hf, if_neg h, h1, if_pos rfl]
theorem gotV_yes {s : ByteArray} {k f v j : Nat} (hf : overV s k = f) (h : ¬ s.size ≤ f) (h1 : numV s f 0 = (v, j)) (h2 : j ≠ f) : gotV s k = ⟨v, f, j, 0, 0⟩ := by
  unfold gotV
  rw [hf, if_neg h, h1, if_neg h2]

end Go.Proofs.YtfhcefglefkakaaGreatDoor.Tk
