/- The law ScaleRises, walked. -/
import Derived.Test.YtjdhlehpoclnjaaGreatSca2
import Derived.Test.YtjdhlehpoclnjaaGreatTnL
import Derived.BigQuiet
namespace Go.Proofs.YtjdhlehpoclnjaaGreat.Sc
open Go.ChangeShapes Go.WideShapes Go.ChangeAt Go.RowKit Go.Proofs.YtjdhlehpoclnjaaGreat.Le
set_option linter.unusedVariables false

theorem u32_of {z : Int} (h : (Lit.int .u32 z).wf = true) : 0 ≤ z ∧ z ≤ 4294967295 := by
  have h1 : IntKind.u32.min = 0 := rfl
  have h2 : IntKind.u32.max = 4294967295 := rfl
  simp only [Lit.wf, Bool.and_eq_true, decide_eq_true_eq] at h
  omega
theorem u8_of {z : Int} (h : (Lit.int .u8 z).wf = true) : 0 ≤ z ∧ z ≤ 255 := by
  have h1 : IntKind.u8.min = 0 := rfl
  have h2 : IntKind.u8.max = 255 := rfl
  simp only [Lit.wf, Bool.and_eq_true, decide_eq_true_eq] at h
  omega

theorem tm_of {v m : Int} (v0 : 0 ≤ v) (hm : 1 ≤ m) : ∃ a, v.tmod m = a ∧ 0 ≤ a ∧ a < m :=
  ⟨_, rfl, Int.tmod_nonneg _ v0, Int.tmod_lt_of_pos _ (by omega)⟩

end Go.Proofs.YtjdhlehpoclnjaaGreat.Sc
