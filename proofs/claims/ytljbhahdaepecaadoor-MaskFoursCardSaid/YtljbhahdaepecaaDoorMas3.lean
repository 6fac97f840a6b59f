/- Layer 9: the document's Find of wrong arguments, walked. -/
import Derived.Test.YtljbhahdaepecaaDoorMas2
import Derived.Test.YtljbhahdaepecaaDoorSca2
namespace Go.Proofs.YtljbhahdaepecaaDoor.Ma
open Go.ChangeShapes Go.WideShapes Go.ChangeAt Go.RowKit
open Go.Proofs.YtljbhahdaepecaaDoor.Sc
set_option linter.unusedVariables false

theorem rfind_arg (w width : Int) (W : World) (h1 : width ≠ 16) (h2 : width ≠ 32) : Calls Tryd.prog 9 #[.int .i64 w, .int .i64 width] W fun e w' => e = .returned (.tuple #[.int .i64 0, .int .i64 0, .int .i64 1]) ∧ W = w' := by
  have e1 : (width != 16) = true := by simpa using h1
  have e2 : (width != 32) = true := by simpa using h2
  go_enter Tryd.func9, Tryd.ntmps9
  go_wp2
  refine bodyPost_ret (v := .tuple #[.int .i64 0, .int .i64 0, .int .i64 1]) (by simp [results, Tryd.results9, go_sem]) rfl ⟨rfl, rfl⟩

theorem rfind_range (w : Int) (n : Nat) (W : World) (hn : n = 16 ∨ n = 32) (h : w < 0 ∨ pw n ≤ w) : Calls Tryd.prog 9 #[.int .i64 w, .int .i64 n] W fun e w' => e = .returned (.tuple #[.int .i64 0, .int .i64 0, .int .i64 2]) ∧ W = w' := by
  have P := power_calls n W (by omega)
  obtain ⟨b0, b1⟩ := pw_le (show n ≤ 32 by omega)
  obtain ⟨p, hp⟩ : ∃ p, pw n = p := ⟨_, rfl⟩
  rw [hp] at P b0 b1 h
  have P' := Lib.hid P
  clear P hp
  by_cases h0 : w < 0
  · clear h
    rcases hn with rfl | rfl
    all_goals
      go_enter Tryd.func9, Tryd.ntmps9
      go_wp2
      refine bodyPost_ret (v := .tuple #[.int .i64 0, .int .i64 0, .int .i64 2]) (by simp [results, Tryd.results9, go_sem]) rfl ⟨rfl, rfl⟩
  · have h1 : p ≤ w := by omega
    clear h
    rcases hn with rfl | rfl
    all_goals
      go_enter Tryd.func9, Tryd.ntmps9
      go_wp2_with fail
      refine P'.out.mono ?_
      rintro e w' ⟨rfl, rfl⟩
      go_wp2
      refine bodyPost_ret (v := .tuple #[.int .i64 0, .int .i64 0, .int .i64 2]) (by simp [results, Tryd.results9, go_sem]) rfl ⟨rfl, rfl⟩


end Go.Proofs.YtljbhahdaepecaaDoor.Ma
