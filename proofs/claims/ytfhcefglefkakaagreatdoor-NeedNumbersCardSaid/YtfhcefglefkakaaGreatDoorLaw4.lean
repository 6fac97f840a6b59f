/- What laws' rows want of structs by value of any number of one-cell fields. -/
import Derived.Test.YtfhcefglefkakaaGreatDoorLaw2
import Derived.Lib.SmallJoins
namespace Go.Proofs.YtfhcefglefkakaaGreatDoor.La
open Go.ChangeShapes Go.WideShapes Go.ChangeAt Go.RowKit Go.Deep Go.Joins
set_option linter.unusedVariables false

/-- Each field of a struct is one cell, which is read by the field's type. -/
theorem open_fields {H : Type} {enc : TypeId × Value → H} {w : World} {base b0 : Nat} {spare : Nat → Bool} {held : Bool} {P : Program} {t : TypeId} {r : Reach} {fs : Array Field} {v : Value} {d : DataW H} {p : List MemPlace}
    (hs : P.underlying t = some (.struct fs)) (hone : oneCellFields P fs = true) (hC : P.cellsOf t = fs.size) (hv : Value.okWide P w r b0 t v) (h : DataW.Trod enc P w base spare held t v d p) :
    ∃ (cs : Array Value) (n : Nat), v = .agg cs ∧ cs.size = fs.size ∧ ∀ (i : Nat) (f : Field), fs[i]? = some f → ∃ c y, cs[i]? = some c ∧ DataW.trod enc P w base spare held n f.type [c] = some y := by
  obtain ⟨cs, rfl, hsz⟩ := okWide_struct hs hv
  obtain ⟨fuel, hf⟩ := h
  obtain ⟨xs, n, _, _, _, hlen, hx⟩ := DataW.trod_struct hs hf
  have hcs : cs.size = fs.size := hsz.trans hC
  refine ⟨cs, n, rfl, hcs, fun i f hi => ?_⟩
  have hlt : i < fs.size := (Array.getElem?_eq_some_iff.1 hi).1
  obtain ⟨o, k⟩ := hone_of hone i f hi
  have h1 := hx i f hi
  rw [o, k] at h1
  have hi1 : i < cs.size := by omega
  have hi2 : i < xs.length := by omega
  have e1 : ((Value.agg cs).cells.toList.drop i).take 1 = [cs[i]] := by
    have hl : i < cs.toList.length := by simpa using hi1
    show (cs.toList.drop i).take 1 = _
    rw [List.drop_eq_getElem_cons hl]
    simp
  rw [e1] at h1
  exact ⟨cs[i], xs[i], Array.getElem?_eq_getElem hi1, by rw [h1, List.getElem?_eq_getElem hi2]⟩

theorem five_of {α : Type} {cs : Array α} (h : cs.size = 5) : ∃ c0 c1 c2 c3 c4, cs = #[c0, c1, c2, c3, c4] := by
  obtain ⟨l⟩ := cs
  match l, h with
  | [c0, c1, c2, c3, c4], _ => exact ⟨c0, c1, c2, c3, c4, rfl⟩
/-- Five fields. -/
theorem open_five {H : Type} {enc : TypeId × Value → H} {w : World} {base b0 : Nat} {spare : Nat → Bool} {held : Bool} {P : Program} {t : TypeId} {r : Reach} {f0 f1 f2 f3 f4 : Field} {v : Value} {d : DataW H} {p : List MemPlace}
    (hs : P.underlying t = some (.struct #[f0, f1, f2, f3, f4])) (hone : oneCellFields P #[f0, f1, f2, f3, f4] = true) (hC : P.cellsOf t = 5) (hv : Value.okWide P w r b0 t v) (h : DataW.Trod enc P w base spare held t v d p) :
    ∃ c0 c1 c2 c3 c4 y0 y1 y2 y3 y4 n, v = .agg #[c0, c1, c2, c3, c4] ∧ DataW.trod enc P w base spare held n f0.type [c0] = some y0 ∧ DataW.trod enc P w base spare held n f1.type [c1] = some y1 ∧
      DataW.trod enc P w base spare held n f2.type [c2] = some y2 ∧ DataW.trod enc P w base spare held n f3.type [c3] = some y3 ∧ DataW.trod enc P w base spare held n f4.type [c4] = some y4 := by
  obtain ⟨cs, n, rfl, hz, hf⟩ := open_fields hs hone hC hv h
  obtain ⟨c0, c1, c2, c3, c4, rfl⟩ := five_of hz
  obtain ⟨_, y0, e0, h0⟩ := hf 0 f0 rfl
  obtain ⟨_, y1, e1, h1⟩ := hf 1 f1 rfl
  obtain ⟨_, y2, e2, h2⟩ := hf 2 f2 rfl
  obtain ⟨_, y3, e3, h3⟩ := hf 3 f3 rfl
  obtain ⟨_, y4, e4, h4⟩ := hf 4 f4 rfl
  obtain rfl := Option.some.inj e0
  obtain rfl := Option.some.inj e1
  obtain rfl := Option.some.inj e2
  obtain rfl := Option.some.inj e3
  obtain rfl := Option.some.inj e4
  exact ⟨_, _, _, _, _, y0, y1, y2, y3, y4, n, rfl, h0, h1, h2, h3, h4⟩

end Go.Proofs.YtfhcefglefkakaaGreatDoor.La
