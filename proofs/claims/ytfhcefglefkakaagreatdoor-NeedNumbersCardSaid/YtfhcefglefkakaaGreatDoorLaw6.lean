/- What laws' rows want of structs by value of six one-cell fields. -/
import Derived.Test.YtfhcefglefkakaaGreatDoorLaw4
namespace Go.Proofs.YtfhcefglefkakaaGreatDoor.La
open Go.ChangeShapes Go.WideShapes Go.ChangeAt Go.RowKit Go.Deep Go.Joins
set_option linter.unusedVariables false

theorem six_of {α : Type} {cs : Array α} (h : cs.size = 6) : ∃ c0 c1 c2 c3 c4 c5, cs = #[c0, c1, c2, c3, c4, c5] := by
  obtain ⟨l⟩ := cs
  match l, h with
  | [c0, c1, c2, c3, c4, c5], _ => exact ⟨c0, c1, c2, c3, c4, c5, rfl⟩
/-- Six fields. -/
theorem open_six {H : Type} {enc : TypeId × Value → H} {w : World} {base b0 : Nat} {spare : Nat → Bool} {held : Bool} {P : Program} {t : TypeId} {r : Reach} {f0 f1 f2 f3 f4 f5 : Field} {v : Value} {d : DataW H} {p : List MemPlace}
    (hs : P.underlying t = some (.struct #[f0, f1, f2, f3, f4, f5])) (hone : oneCellFields P #[f0, f1, f2, f3, f4, f5] = true) (hC : P.cellsOf t = 6) (hv : Value.okWide P w r b0 t v) (h : DataW.Trod enc P w base spare held t v d p) :
    ∃ c0 c1 c2 c3 c4 c5 y0 y1 y2 y3 y4 y5 n, v = .agg #[c0, c1, c2, c3, c4, c5] ∧ DataW.trod enc P w base spare held n f0.type [c0] = some y0 ∧ DataW.trod enc P w base spare held n f1.type [c1] = some y1 ∧ DataW.trod enc P w base spare held n f2.type [c2] = some y2 ∧ DataW.trod enc P w base spare held n f3.type [c3] = some y3 ∧ DataW.trod enc P w base spare held n f4.type [c4] = some y4 ∧ DataW.trod enc P w base spare held n f5.type [c5] = some y5 := by
  obtain ⟨cs, n, rfl, hz, hf⟩ := open_fields hs hone hC hv h
  obtain ⟨c0, c1, c2, c3, c4, c5, rfl⟩ := six_of hz
  obtain ⟨_, y0, e0, h0⟩ := hf 0 f0 rfl
  obtain ⟨_, y1, e1, h1⟩ := hf 1 f1 rfl
  obtain ⟨_, y2, e2, h2⟩ := hf 2 f2 rfl
  obtain ⟨_, y3, e3, h3⟩ := hf 3 f3 rfl
  obtain ⟨_, y4, e4, h4⟩ := hf 4 f4 rfl
  obtain ⟨_, y5, e5, h5⟩ := hf 5 f5 rfl
  obtain rfl := Option.some.inj e0
  obtain rfl := Option.some.inj e1
  obtain rfl := Option.some.inj e2
  obtain rfl := Option.some.inj e3
  obtain rfl := Option.some.inj e4
  obtain rfl := Option.some.inj e5
  exact ⟨_, _, _, _, _, _, y0, y1, y2, y3, y4, y5, n, rfl, h0, h1, h2, h3, h4, h5⟩

end Go.Proofs.YtfhcefglefkakaaGreatDoor.La
