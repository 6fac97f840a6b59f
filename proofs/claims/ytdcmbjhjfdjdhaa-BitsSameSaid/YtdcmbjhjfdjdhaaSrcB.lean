/- Layer 5: the chapter's example; numbers of four bytes. -/
import Derived.Test.YtdcmbjhjfdjdhaaSrcA
namespace Go.Proofs.Ytdcmbjhjfdjdhaa.Sr
open Go.ChangeShapes Go.WideShapes Go.ChangeAt Go.RowKit
open Go.Proofs.Ytdcmbjhjfdjdhaa.Le
set_option linter.unusedVariables false

set_option maxRecDepth 100000 in
/-- The chapter's example. -/
theorem awake_calls (w : World) : Calls Try.prog 8 #[] w fun e w' => e = .returned (.bool true) ∧ w.grownBy w' none := by
  go_enter Try.func8, Try.ntmps8
  go_wp2_with fail
  refine (wnew_calls 10 (by decide) _).mono ?_
  rintro e w0 ⟨l, rfl, L0, g0, hl⟩
  have H0 := Lib.hid L0
  have G0 := Lib.hid g0
  have l0 := L0.lt
  clear L0 g0
  go_wp2_with fail
  refine (snew_calls l _ _ (by decide)).mono ?_
  rintro e w1 ⟨c, rfl, S1, g1, hc⟩
  have H1 := Lib.hid (H0.out.grown g1 (by simp))
  have G1 := Lib.hid (gb_trans G0.out g1)
  have S1' := Lib.hid (S1 l0)
  have hW := G0.out.size
  clear S1 g1 H0
  go_wp2_with fail
  refine (le16_yes c l _ 0 0 3 _ _ S1'.out H1.out (LW_ok (by decide) (by decide) (by decide)) (LW_rd (by decide) (by decide) (by decide))).mono ?_
  rintro e w2 ⟨rfl, ⟨S2, L2⟩, t2⟩
  rw [LW_work (by decide)] at L2
  have G2 := Lib.hid (Tn.own G1.out t2 (by simp; omega))
  have H2 := Lib.hid L2
  have S2' := Lib.hid S2
  clear S2 L2 t2 G1 S1' H1
  go_wp2_with fail
  refine (le16_no c l _ _ 0 3 _ _ S2'.out H2.out (LW_ok (by decide) (by decide) (by decide)) (LW_out (by decide) (by decide))).mono ?_
  rintro e w3 ⟨rfl, ⟨S3, L3⟩, g3⟩
  rw [LW_work (by decide)] at L3
  have G3 := Lib.hid (gb_own G2.out hl g3)
  have H3 := Lib.hid L3
  have S3' := Lib.hid S3
  clear S3 L3 g3 G2 S2' H2
  go_wp2_with fail
  refine (u8_yes c l _ _ 0 3 _ _ S3'.out H3.out (LW_ok (by decide) (by decide) (by decide)) (LW_rd (by decide) (by decide) (by decide))).mono ?_
  rintro e w4 ⟨rfl, ⟨S4, L4⟩, t4⟩
  have G4 := Lib.hid (Tn.own G3.out t4 (by simp; omega))
  clear S4 L4 t4 G3 S3' H3
  go_wp2
  trace_state
  go_ret
  exact ⟨rfl, G4.out⟩

end Go.Proofs.Ytdcmbjhjfdjdhaa.Sr
