/- Proved: for every text and every budget the law QoiBudgets returns true: a file is decoded as with more of it, or it is told that the budget does not let it, at a place within the bytes; the ledger stays within the budget. No condition. -/
import Derived.ChangeSlices
import Derived.Test.YthihmpekiagbbaaGreatG01
import Derived.Test.YthihmpekiagbbaaGreatG02
import Derived.Test.YthihmpekiagbbaaGreatG35
import Derived.Test.YthihmpekiagbbaaGreatG40
namespace Go.Proofs.YthihmpekiagbbaaGreat.qoiBudgets
open Go.ChangeShapes Go.WideShapes Go.ChangeAt Go.RowKit Go.Deep Go.Joins La Qo
set_option linter.unusedVariables false

set_option maxRecDepth 100000 in
theorem lifted (os : Os) (started : os.Started) (H : Type) (enc : TypeId × Value → H) :
    ReturnsInHanded {} Tryz.checked os 4 .any (Rows.qoiBudgetsSpec.pre6 enc Tryz.prog Tryz.f4 Rows.qoiBudgetsRow.domain false) (Rows.qoiBudgetsSpec.post enc Tryz.prog Tryz.f4 false true false false) := by
  refine returnsInHanded_of_change (C := Tryz.checked) own started (by kernel_rfl) Tryz.func4
    (ChangeSpec.witness6 (enc := enc) (C := Tryz.checked) false ⟨#[], #[.string ByteArray.empty, .agg #[.int .i64 0, .int .i64 0, .int .i64 0, .int .i64 0]], []⟩ 8 (by kernel_rfl) (by kernel_rfl) (by kernel_rfl) (by kernel_rfl)) ?_
  intro W base args ds gs before hval0 hW hcnd _
  have hval : ∀ (j : Nat) t v, Tryz.f4.params[j]? = some t → args[j]? = some v → Value.okWide Tryz.prog W .any base t v := hval0
  have hW' := hW
  obtain ⟨p, q, hA0, hV, hbp, hfz, hnd⟩ := hW
  have hA : DataW.TrodAll enc Tryz.prog W 0 (fun _ => true) true Tryz.f4.params.toList args.toList ds p := hA0
  have hAk := hA
  rw [Tryz.params4] at hA hval
  obtain ⟨v0, vs0, d0, ds0, p0, q0, hargs, rfl, rfl, h0, r0⟩ := trodAll_cons hA
  obtain ⟨v1, vs1, d1, ds1, p1, q1, rfl, rfl, rfl, h1, r1⟩ := trodAll_cons r0
  obtain ⟨rfl, rfl, rfl⟩ := trodAll_nil r1
  obtain rfl : args = #[v0, v1] := by cases args; simp_all
  obtain ⟨rfl, rfl⟩ := trodVars_none hV
  obtain ⟨s0, rfl, _, _, hs0⟩ := Go.ChangeMaps.open_string Tryz.underlying9 (hval 0 9 v0 rfl rfl) h0
  obtain ⟨c1_0, c1_1, c1_2, c1_3, y1_0, y1_1, y1_2, y1_3, n1, rfl, rfl, _, t1_0, t1_1, t1_2, t1_3⟩ := open_agg4 Tryz.underlying34 (by kernel_rfl) (by kernel_rfl) (hval 1 34 v1 rfl rfl) h1
  obtain ⟨z1_0, rfl, w1_0⟩ := int_of_trod Tryz.underlying3 t1_0
  obtain ⟨z1_1, rfl, w1_1⟩ := int_of_trod Tryz.underlying3 t1_1
  obtain ⟨z1_2, rfl, w1_2⟩ := int_of_trod Tryz.underlying3 t1_2
  obtain ⟨z1_3, rfl, w1_3⟩ := int_of_trod Tryz.underlying3 t1_3
  refine (buds_any (fun u => awake_calls u) s0 z1_0 z1_1 z1_2 z1_3 W (by unfold maxLen at hs0; omega) (i64_of w1_0).2 (i64_of w1_1).2 (i64_of w1_3).2).mono fun e W' ⟨he, hg⟩ => ?_
  subst he
  exact ⟨_, rfl, law_post laidOut rfl (by kernel_rfl) Tryz.underlying4 (by rw [Tryz.params4]; intro t ht; simp at ht; rcases ht with rfl | rfl <;> exact ⟨by kernel_rfl, of_decide_eq_true (by kernel_rfl)⟩) hW' hAk (by rw [hbp]; simp) rfl rfl rfl rfl hg⟩

theorem over : Rows.qoiBudgetsRow.holds Tryz.pinned (OpenSpec.ofChange Rows.qoiBudgetsSpec) :=
  OpenClaim.holds_of_wide 4 Tryz.f4 rfl rfl rfl rfl rfl rfl rfl ⟨rfl, rfl, rfl, rfl, rfl⟩ rfl rfl rfl rfl rfl (by kernel_rfl) Tryz.func4 (by kernel_rfl)
    (of_decide_eq_true (by kernel_rfl)) (by unfold Func.isWrapper; first | (rw [if_pos (by decide +kernel)]; kernel_rfl) | (rw [if_neg (by decide +kernel)]; exact ⟨rfl, rfl⟩))
    (fun os started H enc _ => lifted os started H enc)

theorem proved : Rows.QoiBudgetsSaid :=
  over
#print axioms proved
end Go.Proofs.YthihmpekiagbbaaGreat.qoiBudgets
