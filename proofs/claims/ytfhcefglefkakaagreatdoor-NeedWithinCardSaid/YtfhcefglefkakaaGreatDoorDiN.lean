/- The document's numbers of two and four bytes (written by wip/gen/di4.py). -/
import Derived.Test.YtfhcefglefkakaaGreatDoorDh1
namespace Go.Proofs.YtfhcefglefkakaaGreatDoor.Dh
open Go.ChangeShapes Go.WideShapes Go.ChangeAt Go.RowKit
open Go.Proofs.YtfhcefglefkakaaGreatDoor.Le Go.Proofs.YtfhcefglefkakaaGreatDoor.Sr
set_option linter.unusedVariables false

theorem num_w2 (s : ByteArray) (p : Nat) (h : p + 2 ≤ s.size) : numV false (s.extract p (p + 2)) = w2 s p := by
  have hl : (s.extract p (p + 2)).data.toList = [s.data.toList.getD p 0, s.data.toList.getD (p + 1) 0] := by
    rw [Lib.extract_data]
    have h0 : p < s.data.toList.length := by rw [← Lib.size_eq]; omega
    have h1 : p + 1 < s.data.toList.length := by rw [← Lib.size_eq]; omega
    rw [show p + 2 - p = 2 from by omega]
    rw [List.getD_eq_getElem?_getD, List.getD_eq_getElem?_getD, List.getElem?_eq_getElem h0, List.getElem?_eq_getElem h1]
    rw [List.drop_eq_getElem_cons h0, List.drop_eq_getElem_cons h1]
    rfl
  unfold numV w2 bn
  rw [hl]
  simp [acc, ordd]
  omega

theorem num_w4 (s : ByteArray) (p : Nat) (h : p + 4 ≤ s.size) : numV false (s.extract p (p + 4)) = w4 s p := by
  have hl : (s.extract p (p + 4)).data.toList = [s.data.toList.getD p 0, s.data.toList.getD (p + 1) 0, s.data.toList.getD (p + 2) 0, s.data.toList.getD (p + 3) 0] := by
    rw [Lib.extract_data]
    have h0 : p < s.data.toList.length := by rw [← Lib.size_eq]; omega
    have h1 : p + 1 < s.data.toList.length := by rw [← Lib.size_eq]; omega
    have h2 : p + 2 < s.data.toList.length := by rw [← Lib.size_eq]; omega
    have h3 : p + 3 < s.data.toList.length := by rw [← Lib.size_eq]; omega
    rw [show p + 4 - p = 4 from by omega]
    rw [List.getD_eq_getElem?_getD, List.getD_eq_getElem?_getD, List.getD_eq_getElem?_getD, List.getD_eq_getElem?_getD, List.getElem?_eq_getElem h0, List.getElem?_eq_getElem h1, List.getElem?_eq_getElem h2, List.getElem?_eq_getElem h3]
    rw [List.drop_eq_getElem_cons h0, List.drop_eq_getElem_cons h1, List.drop_eq_getElem_cons h2, List.drop_eq_getElem_cons h3]
    rfl
  unfold numV w4 bn
  rw [hl]
  simp [acc, ordd]
  omega

end Go.Proofs.YtfhcefglefkakaaGreatDoor.Dh
