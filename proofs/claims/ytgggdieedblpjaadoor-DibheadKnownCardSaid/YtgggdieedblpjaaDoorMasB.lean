/- Layer 9: the code's masks, Common, walked. -/
import Derived.Test.YtgggdieedblpjaaDoorMasA
namespace Go.Proofs.YtgggdieedblpjaaDoor.Ma
open Go.ChangeShapes Go.WideShapes Go.ChangeAt Go.RowKit
open Go.Proofs.YtgggdieedblpjaaDoor.Le Go.Proofs.YtgggdieedblpjaaDoor.Sc
set_option linter.unusedVariables false

/-- Eight numbers, as a value: a set's places. -/
def set8 (s0 n0 s1 n1 s2 n2 s3 n3 : Int) : Array Value := #[.int .i64 s0, .int .i64 n0, .int .i64 s1, .int .i64 n1, .int .i64 s2, .int .i64 n2, .int .i64 s3, .int .i64 n3]

set_option maxRecDepth 100000 in
theorem common_16 (W : World) :
    Calls Tryd.prog 52 #[.int .i64 16] W
    fun e w' => e = .returned (.tuple #[.agg (set8 10 5 5 5 0 5 0 0), .bool true]) ∧ W.grownBy w' none := by
  unfold set8
  go_enter Tryd.func52, Tryd.ntmps52
  go_wp2
  refine bodyPost_ret (v := .tuple #[.agg #[.int .i64 10, .int .i64 5, .int .i64 5, .int .i64 5, .int .i64 0, .int .i64 5, .int .i64 0, .int .i64 0], .bool true]) (by rw [results_cell_tmp (fn := Tryd.f52) rfl]; go_simp) rfl ⟨rfl, ?_⟩
  exact World.grownBy_alloc _ _ _

set_option maxRecDepth 100000 in
theorem common_32 (W : World) :
    Calls Tryd.prog 52 #[.int .i64 32] W
    fun e w' => e = .returned (.tuple #[.agg (set8 16 8 8 8 0 8 0 0), .bool true]) ∧ W.grownBy w' none := by
  unfold set8
  go_enter Tryd.func52, Tryd.ntmps52
  go_wp2
  refine bodyPost_ret (v := .tuple #[.agg #[.int .i64 16, .int .i64 8, .int .i64 8, .int .i64 8, .int .i64 0, .int .i64 8, .int .i64 0, .int .i64 0], .bool true]) (by rw [results_cell_tmp (fn := Tryd.f52) rfl]; go_simp) rfl ⟨rfl, ?_⟩
  exact World.grownBy_alloc _ _ _

set_option maxRecDepth 100000 in
theorem common_no (b : Int) (W : World) (h1 : b ≠ 16) (h2 : b ≠ 32) :
    Calls Tryd.prog 52 #[.int .i64 b] W
    fun e w' => e = .returned (.tuple #[.agg (set8 0 0 0 0 0 0 0 0), .bool false]) ∧ W.grownBy w' none := by
  have e1 : (b == 16) = false := by simpa using h1
  have e2 : (b == 32) = false := by simpa using h2
  unfold set8
  go_enter Tryd.func52, Tryd.ntmps52
  go_wp2
  refine bodyPost_ret (v := .tuple #[.agg #[.int .i64 0, .int .i64 0, .int .i64 0, .int .i64 0, .int .i64 0, .int .i64 0, .int .i64 0, .int .i64 0], .bool false]) (by rw [results_cell_tmp (fn := Tryd.f52) rfl]; go_simp) rfl ⟨rfl, ?_⟩
  exact World.grownBy_alloc _ _ _

end Go.Proofs.YtgggdieedblpjaaDoor.Ma
