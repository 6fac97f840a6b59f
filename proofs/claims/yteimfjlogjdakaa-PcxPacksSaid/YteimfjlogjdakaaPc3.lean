/- Layer 28: the law PcxPacks. -/
import Derived.Test.YteimfjlogjdakaaPc2
import Derived.Deep.RegionHeld3
namespace Go.Proofs.Yteimfjlogjdakaa.Pc
open Go.ChangeShapes Go.WideShapes Go.ChangeAt Go.RowKit
open Go.Proofs.Yteimfjlogjdakaa.Le Go.Proofs.Yteimfjlogjdakaa.St Go.Proofs.Yteimfjlogjdakaa.Bd
set_option linter.unusedVariables false

/-- The chapter's example. -/
def exP : ByteArray := ⟨#[10, 10, 10, 197]⟩
theorem exP_size : exP.size = 4 := rfl
theorem exP0 : SK exP 63 0 3 := ⟨by decide, by decide, by decide, fun j hj => by
  match j, hj with
  | 0, _ => rfl
  | 1, _ => rfl
  | 2, _ => rfl, .inr (.inr (by decide))⟩
theorem exP3 : SK exP 63 3 1 := ⟨by decide, by decide, by decide, fun j hj => by
  match j, hj with
  | 0, _ => rfl, .inr (.inl rfl)⟩
theorem exPs1 : ps exP 63 1 = 3 := ps_next (j := 0) rfl (by decide) exP0
theorem exPs2 : ps exP 63 2 = 4 := ps_next exPs1 (by decide) exP3
theorem exPN : SN exP 63 2 := ⟨fun j hj => by
  match j, hj with
  | 0, _ => exact (by decide : 0 < exP.size)
  | 1, _ => rw [exPs1]; decide, exPs2⟩
theorem exP_pu : pu fP exP 63 2 = [195, 10, 193, 197] := by
  rw [pu_next exPs1 exP3, pu_next (j := 0) rfl exP0]
  show ([] ++ fP 3 10) ++ fP 1 197 = _
  decide

set_option maxRecDepth 100000 in
theorem awake_calls (W : World) : Calls Try.prog 5 #[] W fun e w' => e = .returned (.bool true) ∧ W.grownBy w' none := by
  have K := Lib.hid (pack_calls exP (by decide) W)
  go_enter Try.func5, Try.ntmps5
  go_wp2_with fail
  refine K.out.mono ?_
  rintro e w2 ⟨N, hN, rfl, g⟩
  have hz : (⟨(pu fP exP 63 N).toArray⟩ : ByteArray) = ⟨#[195, 10, 193, 197]⟩ := by
    rw [pu_end hN exPN, exP_pu]
  rw [hz]
  have HG := Lib.hid g
  clear g hz hN K
  go_wp2
  go_ret
  exact ⟨rfl, HG.out⟩

set_option maxRecDepth 100000 in
set_option maxHeartbeats 1000000 in
theorem law_any (s : ByteArray) (hs : s.size ≤ 9223372036854775807) (W : World) : Calls Try.prog 3 #[.string s] W fun e w' => e = .returned (.bool true) ∧ W.grownBy w' none := by
  have KA := Lib.hid awake_calls
  by_cases h : 600 < s.size
  · have d1 : (600 : Int) < (s.size : Int) := by omega
    go_enter Try.func3, Try.ntmps3
    go_wp2_with fail
    refine (KA.out _).mono ?_
    rintro e w2 ⟨rfl, g⟩
    have HG := Lib.hid g
    clear g
    go_wp2
    go_ret
    exact ⟨rfl, HG.out⟩
  · have d1 : ¬ (600 : Int) < (s.size : Int) := by omega
    have K1 := Lib.hid (pack_calls s (by omega) W)
    have K2 := Lib.hid (fun u => rpack_calls s (by omega) u)
    go_enter Try.func3, Try.ntmps3
    go_wp2_with fail
    refine K1.out.mono ?_
    rintro e w2 ⟨N, hN, rfl, g⟩
    have hl := pu_len (f := fP) (by decide) hN (fun k v h1 _ => fP_len k v h1) N (Nat.le_refl _)
    rw [hN.ed] at hl
    obtain ⟨z, hz⟩ : ∃ z, (⟨(pu fP s 63 N).toArray⟩ : ByteArray) = z := ⟨_, rfl⟩
    have hzs : z.size ≤ 2 * s.size := by rw [← hz]; show (pu fP s 63 N).toArray.size ≤ _; rw [List.size_toArray]; exact hl
    rw [hz]
    have HN := Lib.hid hN
    have HZ := Lib.hid hz
    have HG := Lib.hid g
    have e1 : (z.size : Int) ≤ 2 * (s.size : Int) := by omega
    have e2 : IntKind.i64.wrap (2 * (s.size : Int)) = 2 * (s.size : Int) := IntWalk.i64_in _ (by omega)
    clear g hz hN K1 hl
    go_wp2_with fail
    refine (K2.out _).mono ?_
    rintro e w3 ⟨M, hM, rfl, g3⟩
    rw [pu_end hM HN.out, HZ.out]
    have HG3 := Lib.hid (gb_trans HG.out g3)
    clear g3 hM
    go_wp2_with fail
    refine (KA.out _).mono ?_
    rintro e w4 ⟨rfl, g4⟩
    have HG4 := Lib.hid (gb_trans HG3.out g4)
    clear g4
    go_wp2
    go_ret
    exact ⟨rfl, HG4.out⟩

end Go.Proofs.Yteimfjlogjdakaa.Pc
