/- Layer 6: a reader at its start; the chapter's example. -/
import Derived.Test.YthgpjdnppknghaaBit5
import Derived.Test.YthgpjdnppknghaaSrcB
namespace Go.Proofs.Ythgpjdnppknghaa.Bi
open Go.ChangeShapes Go.WideShapes Go.ChangeAt Go.RowKit
open Go.Proofs.Ythgpjdnppknghaa.Le Go.Proofs.Ythgpjdnppknghaa.Sr
set_option linter.unusedVariables false

theorem RS.start {m r c l : Nat} {s : ByteArray} {low : Bool} {w : World} (B : Bt r c 0 0 low w) (S : So c l s 0 0 s.size w) (L : Led l (LW m 0).ls w) (rl : r ≠ l) (sm : s.size < m) (mb : m ≤ 9223372036854775807) : RS m r c l s 0 low 0 0 0 w :=
  ⟨B, S, L, rl, rfl, by omega, fun q _ _ h => by omega, sm, mb⟩

theorem awake_calls (w : World) : Calls Try.prog 11 #[] w fun e w' => e = .returned (.bool true) ∧ w.grownBy w' none := by
  go_enter Try.func11, Try.ntmps11
  go_wp2_with fail
  refine (wnew_calls 9 (by decide) _).mono ?_
  rintro e w0 ⟨l, rfl, L0, g0, hl⟩
  have H0 := Lib.hid L0
  have G0 := Lib.hid g0
  have l0 := L0.lt
  clear L0 g0
  go_wp2_with fail
  refine (snew_calls l _ _ (by decide)).mono ?_
  rintro e w1 ⟨c, rfl, S1, g1, hc⟩
  have H1 := Lib.hid (H0.out.grown g1 (by simp))
  have G1 := Lib.hid (gb_trans G0.out g1)
  have S1' := Lib.hid (S1 l0)
  have l1 := H1.out.lt
  have hW := G0.out.size
  have c1 := S1'.out.lt
  clear S1 g1 H0
  go_wp2_with fail
  refine (bnew_calls c false _).mono ?_
  rintro e w2 ⟨r, rfl, B2, g2, hr⟩
  have G2 := Lib.hid (gb_trans G1.out g2)
  have R2 := Lib.hid (RS.start (m := 9) (B2 c1) (S1'.out.grown g2 (by simp)) (H1.out.grown g2 (by simp)) (by omega) (by decide) (by decide))
  have z1 := G1.out.size
  clear B2 g2 G1 H1 S1'
  go_wp2_with fail
  refine (read_yes false 9 r c l _ 0 4 0 0 0 _ R2.out (by decide) (by decide) (by decide)).mono ?_
  rintro e w3 ⟨p3, left3, last3, rfl, ⟨S3, h3⟩, t3⟩
  have R3 := Lib.hid S3
  have G3 := Lib.hid (Tn.own G2.out t3 (by simp; omega))
  clear S3 t3 G2 R2
  go_wp2_with fail
  refine (read_yes false 9 r c l _ _ 4 _ _ _ _ R3.out h3 (by decide) (by decide)).mono ?_
  rintro e w4 ⟨p4, left4, last4, rfl, ⟨S4, h4⟩, t4⟩
  have G4 := Lib.hid (Tn.own G3.out t4 (by simp; omega))
  clear S4 t4 G3 R3
  go_wp2
  go_ret
  exact ⟨rfl, G4.out⟩

end Go.Proofs.Ythgpjdnppknghaa.Bi
