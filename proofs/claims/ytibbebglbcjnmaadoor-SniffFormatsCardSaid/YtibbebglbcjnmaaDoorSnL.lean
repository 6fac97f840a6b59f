/- Layer 30: the document's Format; any text's signs. -/
import Derived.Test.YtibbebglbcjnmaaDoorSnK
import Derived.Test.YtibbebglbcjnmaaDoorSnA
import Derived.Test.YtibbebglbcjnmaaDoorSn5b
namespace Go.Proofs.YtibbebglbcjnmaaDoor.Sn
open Go.ChangeShapes Go.WideShapes Go.ChangeAt Go.RowKit
open Go.Proofs.YtibbebglbcjnmaaDoor.Le Go.Proofs.YtibbebglbcjnmaaDoor.Tk
set_option linter.unusedVariables false

set_option maxRecDepth 100000 in
theorem rformat_calls (s : ByteArray) (B : Nat → Bool) (KR : ∀ j, j < 8 → ∀ u, Calls Tryd.prog 12 #[.string s, .int .i64 (ordN j : Nat)] u fun e w' => e = .returned (.bool (B (ordN j))) ∧ u = w') (W : World) :
    Calls Tryd.prog 10 #[.string s] W fun e w' => e = .returned (.int .i64 (fmtL B : Nat)) ∧ W.grownBy w' none := by
  have HK := Lib.hid (fun u => rall_calls s B KR u)
  clear KR
  unfold fmtL
  obtain ⟨L, hL⟩ : ∃ L, allL B = L := ⟨_, rfl⟩
  rw [hL] at HK ⊢
  clear hL
  cases L with
  | nil =>
    go_enter Tryd.func10, Tryd.ntmps10
    go_wp2_with fail
    refine (HK.out _).mono ?_
    rintro e w1 ⟨tv, rfl, Y⟩
    obtain ⟨g3, c3, rfl⟩ := Y.sh
    have HY := Lib.hid Y
    clear Y
    go_wp2
    go_ret
    exact ⟨rfl, HY.out.g⟩
  | cons f l =>
    go_enter Tryd.func10, Tryd.ntmps10
    go_wp2_with fail
    refine (HK.out _).mono ?_
    rintro e w1 ⟨tv, rfl, Y⟩
    obtain ⟨g3, c3, rfl⟩ := Y.sh
    have hc := Y.cell 0 (by simp)
    rw [List.getElem_cons_zero] at hc
    have hne : ((((f :: l).length : Nat) : Int) == 0) = false := by rw [beq_eq_false_iff_ne, List.length_cons]; omega
    have hpos : 0 < (f :: l).length := by rw [List.length_cons]; omega
    have hn0 : ¬ (((f :: l).length : Nat) : Int) = 0 := by omega
    have HY := Lib.hid Y
    clear Y
    generalize (f :: l).length = n at hne hpos hn0 HY ⊢
    go_wp2
    go_ret
    exact ⟨rfl, HY.out.g⟩

/-- Any text's signs, told by the code and by the document. -/
theorem hs_all (s : ByteArray) (hm : s.size ≤ 9223372036854775807) : ∃ B, Hs s B ∧ B 2 = Tg.tgB s := hs_ex s (Tg.tgB s) (fun u => Tg.tg_calls s hm u)

end Go.Proofs.YtibbebglbcjnmaaDoor.Sn
