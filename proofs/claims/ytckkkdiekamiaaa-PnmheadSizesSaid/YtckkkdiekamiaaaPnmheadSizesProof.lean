/- Proved: for every head the law PnmheadSizes returns true: any head's pixels have as many bytes as the document says, or it may not be asked. No condition. -/
import Derived.Test.YtckkkdiekamiaaaLaw
import Derived.Test.YtckkkdiekamiaaaLaw2
import Derived.Test.YtckkkdiekamiaaaPnhA
import Derived.Test.YtckkkdiekamiaaaLaw4
import Derived.ChangeSlices
namespace Go.Proofs.Ytckkkdiekamiaaa.pnmheadSizes
open Go.ChangeShapes Go.WideShapes Go.ChangeAt Go.RowKit Go.Deep Go.Joins La Ph
set_option linter.unusedVariables false

set_option maxRecDepth 100000 in
theorem lifted (os : Os) (started : os.Started) (H : Type) (enc : TypeId × Value → H) :
    ReturnsInHanded {} Try.checked os 7 .any (Rows.pnmheadSizesSpec.pre6 enc Try.prog Try.f7 Rows.pnmheadSizesRow.domain false) (Rows.pnmheadSizesSpec.post enc Try.prog Try.f7 false true false false) := by
  refine returnsInHanded_of_change (C := Try.checked) own started (by kernel_rfl) Try.func7
    (ChangeSpec.witness6 (enc := enc) (C := Try.checked) false ⟨#[], #[.agg #[.int .i64 0, .int .i64 0, .int .i64 0, .int .i64 0, .int .i64 0]], []⟩ 8 (by kernel_rfl) (by kernel_rfl) (by kernel_rfl) (by kernel_rfl)) ?_
  intro W base args ds gs before hval0 hW hcnd _
  have hval : ∀ (j : Nat) t v, Try.f7.params[j]? = some t → args[j]? = some v → Value.okWide Try.prog W .any base t v := hval0
  have hW' := hW
  obtain ⟨p, q, hA0, hV, hbp, hfz, hnd⟩ := hW
  have hA : DataW.TrodAll enc Try.prog W 0 (fun _ => true) true Try.f7.params.toList args.toList ds p := hA0
  have hAk := hA
  rw [Try.params7] at hA hval
  obtain ⟨v0, vs0, d0, ds0, p0, q0, hargs, rfl, rfl, h0, r0⟩ := trodAll_cons hA
  obtain ⟨rfl, rfl, rfl⟩ := trodAll_nil r0
  obtain rfl : args = #[v0] := by cases args; simp_all
  obtain ⟨rfl, rfl⟩ := trodVars_none hV
  obtain ⟨c0_0, c0_1, c0_2, c0_3, c0_4, y0_0, y0_1, y0_2, y0_3, y0_4, n0, rfl, t0_0, t0_1, t0_2, t0_3, t0_4⟩ := open_five Try.underlying48 (by kernel_rfl) (by kernel_rfl) (hval 0 48 v0 rfl rfl) h0
  obtain ⟨z0_0, rfl, w0_0⟩ := int_of_trod Try.underlying3 t0_0
  obtain ⟨z0_1, rfl, w0_1⟩ := int_of_trod Try.underlying3 t0_1
  obtain ⟨z0_2, rfl, w0_2⟩ := int_of_trod Try.underlying3 t0_2
  obtain ⟨z0_3, rfl, w0_3⟩ := int_of_trod Try.underlying3 t0_3
  obtain ⟨z0_4, rfl, w0_4⟩ := int_of_trod Try.underlying3 t0_4
  refine (sizes_walk z0_0 z0_1 z0_2 z0_3 z0_4 W).mono fun e W' ⟨he, hg⟩ => ?_
  subst he
  exact ⟨_, rfl, law_post laidOut rfl (by kernel_rfl) Try.underlying4 (by rw [Try.params7]; intro t ht; simp at ht; subst ht; exact ⟨by kernel_rfl, of_decide_eq_true (by kernel_rfl)⟩) hW' hAk (by rw [hbp]; simp) rfl rfl rfl rfl hg⟩

theorem over : Rows.pnmheadSizesRow.holds Try.pinned (OpenSpec.ofChange Rows.pnmheadSizesSpec) :=
  OpenClaim.holds_of_wide 7 Try.f7 rfl rfl rfl rfl rfl rfl rfl ⟨rfl, rfl, rfl, rfl, rfl⟩ rfl rfl rfl rfl rfl (by kernel_rfl) Try.func7 (by kernel_rfl)
    (of_decide_eq_true (by kernel_rfl)) (by unfold Func.isWrapper; first | (rw [if_pos (by decide +kernel)]; kernel_rfl) | (rw [if_neg (by decide +kernel)]; exact ⟨rfl, rfl⟩))
    (fun os started H enc _ => lifted os started H enc)

theorem proved : Rows.PnmheadSizesSaid :=
  over
#print axioms proved
end Go.Proofs.Ytckkkdiekamiaaa.pnmheadSizes
