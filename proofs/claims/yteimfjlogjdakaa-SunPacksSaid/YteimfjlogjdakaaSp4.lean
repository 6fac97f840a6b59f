/- Layer 29: the law SunPacks. -/
import Derived.Test.YteimfjlogjdakaaSp3
import Derived.Deep.RegionHeld3
namespace Go.Proofs.Yteimfjlogjdakaa.Sp
open Go.ChangeShapes Go.WideShapes Go.ChangeAt Go.RowKit
open Go.Proofs.Yteimfjlogjdakaa.Le Go.Proofs.Yteimfjlogjdakaa.St Go.Proofs.Yteimfjlogjdakaa.Bd
set_option linter.unusedVariables false

/-- The chapter's example. -/
def exS : ByteArray := ⟨#[10, 10, 10, 128]⟩
theorem exS_size : exS.size = 4 := rfl
theorem exS0 : SK exS 256 0 3 := ⟨by decide, by decide, by decide, fun j hj => by
  match j, hj with
  | 0, _ => rfl
  | 1, _ => rfl
  | 2, _ => rfl, .inr (.inr (by decide))⟩
theorem exS3 : SK exS 256 3 1 := ⟨by decide, by decide, by decide, fun j hj => by
  match j, hj with
  | 0, _ => rfl, .inr (.inl rfl)⟩
theorem exSs1 : ps exS 256 1 = 3 := ps_next (j := 0) rfl (by decide) exS0
theorem exSs2 : ps exS 256 2 = 4 := ps_next exSs1 (by decide) exS3
theorem exSN : SN exS 256 2 := ⟨fun j hj => by
  match j, hj with
  | 0, _ => exact (by decide : 0 < exS.size)
  | 1, _ => rw [exSs1]; decide, exSs2⟩
theorem exS_pu : pu fS exS 256 2 = [128, 2, 10, 128, 0] := by
  rw [pu_next exSs1 exS3, pu_next (j := 0) rfl exS0]
  show ([] ++ fS 3 10) ++ fS 1 128 = _
  decide

set_option maxRecDepth 100000 in
theorem awake_calls (W : World) : Calls Try.prog 8 #[] W fun e w' => e = .returned (.bool true) ∧ W.grownBy w' none := by
  have K := Lib.hid (pack_calls exS (by decide) W)
  go_enter Try.func8, Try.ntmps8
  go_wp2_with fail
  refine K.out.mono ?_
  rintro e w2 ⟨N, hN, rfl, g⟩
  have hz : (⟨(pu fS exS 256 N).toArray⟩ : ByteArray) = ⟨#[128, 2, 10, 128, 0]⟩ := by
    rw [pu_end hN exSN, exS_pu]
  rw [hz]
  have HG := Lib.hid g
  clear g hz hN K
  go_wp2
  go_ret
  exact ⟨rfl, HG.out⟩

set_option maxRecDepth 100000 in
set_option maxHeartbeats 1000000 in
theorem law_any (s : ByteArray) (hs : s.size ≤ 9223372036854775807) (W : World) : Calls Try.prog 4 #[.string s] W fun e w' => e = .returned (.bool true) ∧ W.grownBy w' none := by
  have KA := Lib.hid awake_calls
  by_cases h : 900 < s.size
  · have d1 : (900 : Int) < (s.size : Int) := by omega
    go_enter Try.func4, Try.ntmps4
    go_wp2_with fail
    refine (KA.out _).mono ?_
    rintro e w2 ⟨rfl, g⟩
    have HG := Lib.hid g
    clear g
    go_wp2
    go_ret
    exact ⟨rfl, HG.out⟩
  · have d1 : ¬ (900 : Int) < (s.size : Int) := by omega
    have K1 := Lib.hid (pack_calls s (by omega) W)
    have K2 := Lib.hid (fun u => rpack_calls s (by omega) u)
    go_enter Try.func4, Try.ntmps4
    go_wp2_with fail
    refine K1.out.mono ?_
    rintro e w2 ⟨N, hN, rfl, g⟩
    obtain ⟨z, hz⟩ : ∃ z, (⟨(pu fS s 256 N).toArray⟩ : ByteArray) = z := ⟨_, rfl⟩
    rw [hz]
    have HN := Lib.hid hN
    have HZ := Lib.hid hz
    have HG := Lib.hid g
    clear g hz hN K1
    go_wp2_with fail
    refine (K2.out _).mono ?_
    rintro e w3 ⟨M, hM, rfl, g3⟩
    rw [pu_end hM HN.out, HZ.out]
    have HG3 := Lib.hid (gb_trans HG.out g3)
    clear g3 hM
    go_wp2_with fail
    refine (KA.out _).mono ?_
    rintro e w4 ⟨rfl, g4⟩
    have HG4 := Lib.hid (gb_trans HG3.out g4)
    clear g4
    go_wp2
    go_ret
    exact ⟨rfl, HG4.out⟩

end Go.Proofs.Yteimfjlogjdakaa.Sp
