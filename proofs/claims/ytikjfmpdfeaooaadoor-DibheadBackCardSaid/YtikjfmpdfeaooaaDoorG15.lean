/- Texts of one kind, one behind the other: MasT. -/
import Derived.Lib.LaidTab
import Derived.Test.YtikjfmpdfeaooaaDoorG11
/- The library's table, out of a row's condition. -/
namespace Go.Proofs.YtikjfmpdfeaooaaDoor.Ma
open Go.ChangeShapes Go.WideShapes Go.ChangeAt Go.RowKit
open Go.Proofs.YtikjfmpdfeaooaaDoor.Le Go.Proofs.YtikjfmpdfeaooaaDoor.Sc
set_option linter.unusedVariables false

def tabZ : List Int := Lib.deBruijn32tab.map (fun x : Nat => (x : Int))
theorem tab_of {w : World} (h : Lib.TabIs Tryd.prog w "math/bits.deBruijn32tab" .u8 tabZ) : Tab w := fun j hj => by
  have e : tabZ.getD j 0 = ((Lib.deBruijn32tab.getD j 0 : Nat) : Int) := by
    unfold tabZ
    rw [List.getD_eq_getElem?_getD, List.getD_eq_getElem?_getD, List.getElem?_map, List.getElem?_eq_getElem hj]
    rfl
  have hl : j < tabZ.length := by unfold tabZ; rw [List.length_map]; exact hj
  rw [← e]
  exact h.cell (g := 0) (by kernel_rfl) j hl
theorem Tab.lt {w : World} (h : Tab w) : 0 < w.heap.size := by
  have h0 := h 0 (by decide)
  rcases Nat.lt_or_ge 0 w.heap.size with h' | h'
  · exact h'
  · simp [World.cell?, Array.getElem?_eq_none h'] at h0
end Go.Proofs.YtikjfmpdfeaooaaDoor.Ma
