/- Package buf: many bytes are made one, and told. -/
import Derived.Test.YtljbhahdaepecaaBuf2
import Derived.Deep.LoopGhost
namespace Go.Proofs.Ytljbhahdaepecaa.Bu
open Go.ChangeShapes Go.WideShapes Go.ChangeAt Go.RowKit
open Go.Proofs.Ytljbhahdaepecaa.Le
set_option linter.unusedVariables false

/-- So many times one byte. -/
def rep (v : UInt8) (k : Nat) : ByteArray := ⟨(List.replicate k v).toArray⟩
theorem rep_size (v : UInt8) (k : Nat) : (rep v k).size = k := by rw [Lib.size_eq]; simp [rep]
theorem rep_list (v : UInt8) (k : Nat) : (rep v k).data.toList = List.replicate k v := rfl

theorem put_none (s t : ByteArray) (i : Nat) (h : t.size = 0) : putS s t i = s := by
  have et : t.data.toList = [] := List.eq_nil_of_length_eq_zero (by rw [← Lib.size_eq]; exact h)
  apply ByteArray.ext
  apply Array.toList_inj.1
  rw [putS_list, et, h]
  simp

theorem put_step (s : ByteArray) (v : UInt8) (i k : Nat) (h : i + k < s.size) : putS (putS s (rep v k) i) (one v) (i + k) = putS s (rep v (k + 1)) i := by
  have hl := Lib.size_eq s
  apply ByteArray.ext
  apply Array.toList_inj.1
  rw [putS_list, putS_list, putS_list, rep_list, rep_list, rep_size, rep_size, one_size]
  have h1 : (s.data.toList.take i ++ List.replicate k v).length = i + k := by simp [← hl]; omega
  have e1 : (s.data.toList.take i ++ List.replicate k v ++ s.data.toList.drop (i + k)).take (i + k) = s.data.toList.take i ++ List.replicate k v := by
    rw [← h1]; exact List.take_left ..
  have e2 : (s.data.toList.take i ++ List.replicate k v ++ s.data.toList.drop (i + k)).drop (i + k + 1) = s.data.toList.drop (i + (k + 1)) := by
    rw [← List.drop_drop, ← h1, List.drop_left, List.drop_drop, h1, Nat.add_assoc]
  rw [e1, e2, List.replicate_succ']
  simp [one]

theorem get_no (b l g : Nat) (o : Bool) (s : ByteArray) (i n : Int) (w : World) (h : Bf b l g o s w) (hi : i ≤ 9223372036854775807) (hno : thereB o s.size i n = false) :
    Calls Try.prog 32 #[.pointer (some ⟨b, 0, none⟩), .int .i64 i, .int .i64 n] w fun e w' => e = .returned (.tuple #[.string ByteArray.empty, .bool false]) ∧ w = w' := by
  have K := has_calls b l g o s i n w h hi
  rw [hno] at K
  have K' := Lib.hid K
  clear K h hno
  go_enter Try.func32, Try.ntmps32
  go_wp2_with (go_at_call 43; refine K'.out.mono ?_; rintro e w' ⟨rfl, rfl⟩)
  go_ret2
  exact ⟨rfl, rfl⟩

theorem byts {b l g : Nat} {s : ByteArray} {w : World} (h : BOpen b l g s w) : Lib.Bytes w g 0 s := fun i hi => by
  rw [Nat.zero_add]
  exact (blk_cell h.byt i).trans (bys_at s i hi)
theorem ext_none (s : ByteArray) (i j : Nat) (h : j ≤ i) : s.extract i j = ByteArray.empty := by
  apply ByteArray.ext
  apply Array.toList_inj.1
  rw [Lib.extract_data, show j - i = 0 from by omega]
  rfl

theorem get_yes (b l g : Nat) (s : ByteArray) (i n : Nat) (w : World) (h : BOpen b l g s w) (hi : i + n ≤ s.size) :
    Calls Try.prog 32 #[.pointer (some ⟨b, 0, none⟩), .int .i64 i, .int .i64 n] w
      fun e w' => e = .returned (.tuple #[.string (s.extract i (i + n)), .bool true]) ∧ w = w' := by
  have K := has_calls b l g true s i n w (.inl ⟨rfl, h⟩) (by have := h.big; omega)
  rw [there_is ⟨rfl, by omega, by omega, by omega⟩] at K
  have K' := Lib.hid K
  have c1 : w.cell? ⟨b, 1, none⟩ = some (.slice (some ⟨g, 0, none⟩) s.size s.size) := blk_cell h.blk 1
  have hsl := slice_part w g s.size i n hi
  have hbig := h.big
  have hcv : (convert 85 9 (.slice (some ⟨g, if s.size = i then 0 else i, none⟩) n (s.size - i))).run Try.prog w = .ok (.string (s.extract i (i + n))) w := by
    by_cases h0 : s.size = i
    · have hn : n = 0 := by omega
      subst hn
      rw [if_pos h0, ext_none s i (i + 0) (by omega)]
      have := Lib.run_convert_window (P := Try.prog) w 85 5 9 und8 (by kernel_rfl) (by kernel_rfl) g 0 s (byts h) 0 0 (s.size - i) (by omega)
      rw [ext_none s 0 (0 + 0) (by omega)] at this
      exact this
    · rw [if_neg h0]
      have := Lib.run_convert_window (P := Try.prog) w 85 5 9 und8 (by kernel_rfl) (by kernel_rfl) g 0 s (byts h) i n (s.size - i) hi
      rw [Nat.zero_add] at this
      exact this
  obtain ⟨o, ho⟩ : ∃ o, (if s.size = i then 0 else i) = o := ⟨_, rfl⟩
  rw [ho] at hsl hcv
  obtain ⟨z, hz⟩ : ∃ z, s.extract i (i + n) = z := ⟨_, rfl⟩
  rw [hz] at hcv ⊢
  clear K h ho hz
  go_enter Try.func32, Try.ntmps32
  go_wp2_with (go_at_call 43; refine K'.out.mono ?_; rintro e w' ⟨rfl, rfl⟩)
  go_ret2
  exact ⟨rfl, rfl⟩

end Go.Proofs.Ytljbhahdaepecaa.Bu
