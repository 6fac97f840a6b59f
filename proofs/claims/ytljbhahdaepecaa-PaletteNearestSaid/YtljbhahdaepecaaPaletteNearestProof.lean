/- Proved: for every list of colours and every colour the law PaletteNearest returns true: of any colours the nearest one, the first of several, is told. No condition. -/
import Derived.Test.YtljbhahdaepecaaLaw
import Derived.Test.YtljbhahdaepecaaLaw2
import Derived.Test.YtljbhahdaepecaaPalG
import Derived.Test.YtljbhahdaepecaaPalR
import Derived.ChangeSlices
namespace Go.Proofs.Ytljbhahdaepecaa.paletteNearest
open Go.ChangeShapes Go.WideShapes Go.ChangeAt Go.RowKit Go.Deep Go.Joins La Pa
set_option linter.unusedVariables false

set_option maxRecDepth 100000 in
theorem lifted (os : Os) (started : os.Started) (H : Type) (enc : TypeId × Value → H) :
    ReturnsInHanded {} Try.checked os 6 .any (Rows.paletteNearestSpec.pre6 enc Try.prog Try.f6 Rows.paletteNearestRow.domain false) (Rows.paletteNearestSpec.post enc Try.prog Try.f6 false true false false) := by
  refine returnsInHanded_of_change (C := Try.checked) own started (by kernel_rfl) Try.func6
    (ChangeSpec.witness6 (enc := enc) (C := Try.checked) false ⟨#[], #[.slice none 0 0, .agg #[.int .u8 0, .int .u8 0, .int .u8 0, .int .u8 0]], []⟩ 8 (by kernel_rfl) (by kernel_rfl) (by kernel_rfl) (by kernel_rfl)) ?_
  intro W base args ds gs before hval0 hW hcnd _
  have hval : ∀ (j : Nat) t v, Try.f6.params[j]? = some t → args[j]? = some v → Value.okWide Try.prog W .any base t v := hval0
  have hW' := hW
  obtain ⟨p, q, hA0, hV, hbp, hfz, hnd⟩ := hW
  have hA : DataW.TrodAll enc Try.prog W 0 (fun _ => true) true Try.f6.params.toList args.toList ds p := hA0
  have hAk := hA
  rw [Try.params6] at hA hval
  obtain ⟨v0, vs0, d0, ds0, p0, q0, hargs, rfl, rfl, h0, r0⟩ := trodAll_cons hA
  obtain ⟨v1, vs1, d1, ds1, p1, q1, rfl, rfl, rfl, h1, r1⟩ := trodAll_cons r0
  obtain ⟨rfl, rfl, rfl⟩ := trodAll_nil r1
  obtain rfl : args = #[v0, v1] := by cases args; simp_all
  obtain ⟨rfl, rfl⟩ := trodVars_none hV
  obtain ⟨c1_0, c1_1, c1_2, c1_3, y1_0, y1_1, y1_2, y1_3, n1, rfl, rfl, _, t1_0, t1_1, t1_2, t1_3⟩ := open_agg4 Try.underlying24 (by kernel_rfl) (by kernel_rfl) (hval 1 24 v1 rfl rfl) h1
  obtain ⟨z1_0, rfl, w1_0⟩ := int_of_trod Try.underlying5 t1_0
  obtain ⟨z1_1, rfl, w1_1⟩ := int_of_trod Try.underlying5 t1_1
  obtain ⟨z1_2, rfl, w1_2⟩ := int_of_trod Try.underlying5 t1_2
  obtain ⟨z1_3, rfl, w1_3⟩ := int_of_trod Try.underlying5 t1_3
  obtain ⟨s0, sl, sc, rfl⟩ := okWide_slice Try.underlying30 (hval 0 30 v0 rfl rfl)
  obtain ⟨fuel, hf⟩ := h0
  obtain ⟨a, b, off, len, cap, C, hv, ha, hm, hC, hCol⟩ := open_cols hf
  obtain ⟨rfl, rfl, rfl⟩ : s0 = a ∧ sl = len ∧ sc = cap := by simpa using hv
  refine (near_any _ b off _ _ C z1_0 z1_1 z1_2 z1_3 W ha hm hC hCol (u8_of w1_0) (u8_of w1_1) (u8_of w1_2) (u8_of w1_3)).mono fun e W' ⟨he, hg⟩ => ?_
  subst he
  exact ⟨_, rfl, law_post laidOut rfl (by kernel_rfl) Try.underlying4 (by rw [Try.params6]; intro t ht; simp at ht; rcases ht with rfl | rfl <;> exact ⟨by kernel_rfl, of_decide_eq_true (by kernel_rfl)⟩) hW' hAk (by rw [hbp]; simp) rfl rfl rfl rfl hg⟩

theorem over : Rows.paletteNearestRow.holds Try.pinned (OpenSpec.ofChange Rows.paletteNearestSpec) :=
  OpenClaim.holds_of_wide 6 Try.f6 rfl rfl rfl rfl rfl rfl rfl ⟨rfl, rfl, rfl, rfl, rfl⟩ rfl rfl rfl rfl rfl (by kernel_rfl) Try.func6 (by kernel_rfl)
    (of_decide_eq_true (by kernel_rfl)) (by unfold Func.isWrapper; first | (rw [if_pos (by decide +kernel)]; kernel_rfl) | (rw [if_neg (by decide +kernel)]; exact ⟨rfl, rfl⟩))
    (fun os started H enc _ => lifted os started H enc)

theorem proved : Rows.PaletteNearestSaid :=
  over
#print axioms proved
end Go.Proofs.Ytljbhahdaepecaa.paletteNearest
