/- Package buf: many bytes are made one, and told. -/
import Derived.Test.YtjdhlehpoclnjaaGreatBuf2
import Derived.Deep.LoopGhost
namespace Go.Proofs.YtjdhlehpoclnjaaGreat.Bu
open Go.ChangeShapes Go.WideShapes Go.ChangeAt Go.RowKit
open Go.Proofs.YtjdhlehpoclnjaaGreat.Le
set_option linter.unusedVariables false

/-- So many times one byte. -/
def rep (v : UInt8) (k : Nat) : ByteArray := ⟨(List.replicate k v).toArray⟩
theorem rep_size (v : UInt8) (k : Nat) : (rep v k).size = k := by rw [Lib.size_eq]; simp [rep]
theorem rep_list (v : UInt8) (k : Nat) : (rep v k).data.toList = List.replicate k v := rfl

theorem put_none (s t : ByteArray) (i : Nat) (h : t.size = 0) : putS s t i = s := by
  have et : t.data.toList = [] := List.eq_nil_of_length_eq_zero (by rw [← Lib.size_eq]; exact h)
  apply ByteArray.ext
  apply Array.toList_inj.1
  rw [putS_list, et, h]
  simp

theorem put_step (s : ByteArray) (v : UInt8) (i k : Nat) (h : i + k < s.size) : putS (putS s (rep v k) i) (one v) (i + k) = putS s (rep v (k + 1)) i := by
  have hl := Lib.size_eq s
  apply ByteArray.ext
  apply Array.toList_inj.1
  rw [putS_list, putS_list, putS_list, rep_list, rep_list, rep_size, rep_size, one_size]
  have h1 : (s.data.toList.take i ++ List.replicate k v).length = i + k := by simp [← hl]; omega
  have e1 : (s.data.toList.take i ++ List.replicate k v ++ s.data.toList.drop (i + k)).take (i + k) = s.data.toList.take i ++ List.replicate k v := by
    rw [← h1]; exact List.take_left ..
  have e2 : (s.data.toList.take i ++ List.replicate k v ++ s.data.toList.drop (i + k)).drop (i + k + 1) = s.data.toList.drop (i + (k + 1)) := by
    rw [← List.drop_drop, ← h1, List.drop_left, List.drop_drop, h1, Nat.add_assoc]
  rw [e1, e2, List.replicate_succ']
  simp [one]

theorem byts {b l g : Nat} {s : ByteArray} {w : World} (h : BOpen b l g s w) : Lib.Bytes w g 0 s := fun i hi => by
  rw [Nat.zero_add]
  exact (blk_cell h.byt i).trans (bys_at s i hi)
theorem ext_none (s : ByteArray) (i j : Nat) (h : j ≤ i) : s.extract i j = ByteArray.empty := by
  apply ByteArray.ext
  apply Array.toList_inj.1
  rw [Lib.extract_data, show j - i = 0 from by omega]
  rfl

end Go.Proofs.YtjdhlehpoclnjaaGreat.Bu
