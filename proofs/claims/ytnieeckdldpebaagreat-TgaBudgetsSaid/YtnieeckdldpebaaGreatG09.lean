/- Texts of one kind, one behind the other: Law2. -/
import Derived.ChangeSlices
import Derived.Test.YtnieeckdldpebaaGreatG08
/- What laws' rows want of slices of bytes: each byte a number, by a function of the place. -/
namespace Go.Proofs.YtnieeckdldpebaaGreat.La
open Go.ChangeShapes Go.WideShapes Go.ChangeAt Go.RowKit Go.Deep Go.Joins
set_option linter.unusedVariables false

theorem i64_of {z : Int} (h : (Lit.int .i64 z).wf = true) : -9223372036854775808 ≤ z ∧ z ≤ 9223372036854775807 := by
  have h1 : IntKind.i64.min = -9223372036854775808 := rfl
  have h2 : IntKind.i64.max = 9223372036854775807 := rfl
  simp only [Lit.wf, Bool.and_eq_true, decide_eq_true_eq] at h
  omega
end Go.Proofs.YtnieeckdldpebaaGreat.La
