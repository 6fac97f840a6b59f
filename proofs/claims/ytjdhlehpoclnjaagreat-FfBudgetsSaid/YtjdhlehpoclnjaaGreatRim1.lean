/- Images: their bytes in memory; what is right; which are the same. -/
import Derived.Test.YtjdhlehpoclnjaaGreatRas4
import Derived.Laws.BytesString
import Derived.Laws.AppendOwn
import Derived.WalkLawsBesides
namespace Go.Proofs.YtjdhlehpoclnjaaGreat.Ra
open Go.ChangeShapes Go.WideShapes Go.ChangeAt Go.RowKit
open Go.Proofs.YtjdhlehpoclnjaaGreat.Le Go.Proofs.YtjdhlehpoclnjaaGreat.Bu Go.Proofs.YtjdhlehpoclnjaaGreat.Nu
set_option linter.unusedVariables false

/-- The bytes S lie in a slice that begins at a. -/
def Bx (a : Option Addr) (S : ByteArray) (w : World) : Prop := S.size = 0 ∨ ∃ b off, a = some ⟨b, off, none⟩ ∧ Lib.Bytes w b off S
theorem Bx.grown {a : Option Addr} {S : ByteArray} {w w' : World} (h : Bx a S w) (k : w.grownBy w' none) : Bx a S w' := by
  rcases h with h | ⟨b, off, h1, h2⟩
  · exact .inl h
  · exact .inr ⟨b, off, h1, fun i hi => k.cell (h2 i hi) (by simp)⟩

theorem empty_of {S : ByteArray} (h : S.size = 0) : S = ByteArray.empty := by
  apply ByteArray.ext
  apply Array.toList_inj.1
  have : S.data.toList.length = 0 := by simpa using h
  rw [List.eq_nil_of_length_eq_zero this]
  rfl

theorem conv_zero (w : World) (p : Option Addr) (c : Nat) : (convert 25 9 (.slice p 0 c)).run Tryz.prog w = .ok (.string ByteArray.empty) w := by
  rw [run_convert_bytes_string w 25 9 5 _ 0 c und8 (by kernel_rfl) (by kernel_rfl)]
  cases p <;> simp [Conv.bytesToString, loadCells]
  all_goals rfl

theorem conv_bx {a : Option Addr} {S : ByteArray} {w : World} (h : Bx a S w) (c : Nat) : (convert 25 9 (.slice a S.size c)).run Tryz.prog w = .ok (.string S) w := by
  rcases h with h | ⟨b, off, rfl, h2⟩
  · rw [h, empty_of h]
    exact conv_zero w a c
  · exact Lib.run_convert_whole (P := Tryz.prog) w 25 5 9 und8 (by kernel_rfl) (by kernel_rfl) b off S h2 c

theorem eq_calls (a1 a2 : Option Addr) (c1 c2 : Nat) (S1 S2 : ByteArray) (w : World) (h1 : Bx a1 S1 w) (h2 : Bx a2 S2 w) :
    Calls Tryz.prog 53 #[.slice a1 S1.size c1, .slice a2 S2.size c2] w fun e w' => e = .returned (.bool (S1.toList == S2.toList)) ∧ w = w' := by
  have k1 := conv_bx h1 c1
  have k2 := conv_bx h2 c2
  obtain ⟨n1, hn1⟩ : ∃ n, S1.size = n := ⟨_, rfl⟩
  obtain ⟨n2, hn2⟩ : ∃ n, S2.size = n := ⟨_, rfl⟩
  rw [hn1] at k1 ⊢
  rw [hn2] at k2 ⊢
  clear h1 h2 hn1 hn2
  go_enter Tryz.func53, Tryz.ntmps53
  go_wp2
  go_ret
  exact ⟨rfl, rfl⟩

theorem bys_len (S : ByteArray) : (bys S).toList.length = S.size := by
  have := bys_size S
  simpa using this
theorem bys_one (S : ByteArray) : ∀ u ∈ (bys S).toList, u.oneCell' = true := by
  intro u hu
  simp only [bys, Lib.byteCells, List.mem_map] at hu
  obtain ⟨x, _, rfl⟩ := hu
  rfl

end Go.Proofs.YtjdhlehpoclnjaaGreat.Ra
