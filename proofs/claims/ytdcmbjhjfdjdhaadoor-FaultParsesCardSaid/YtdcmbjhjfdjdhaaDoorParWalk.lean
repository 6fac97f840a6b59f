/- FaultParses, walked. -/
import Derived.Test.YtdcmbjhjfdjdhaaDoorFauE
import Derived.Test.YtdcmbjhjfdjdhaaDoorFau2
namespace Go.Proofs.YtdcmbjhjfdjdhaaDoor.Fa
open Go.ChangeShapes Go.WideShapes Go.ChangeAt Go.RowKit
open Go.Proofs.YtdcmbjhjfdjdhaaDoor.Le
set_option linter.unusedVariables false

set_option maxRecDepth 100000 in
theorem parses_far (s : ByteArray) (w : World) (hs : 100 < s.size) (hb : s.size ≤ 9223372036854775807) :
    Calls Tryd.prog 4 #[.string s] w fun e w' => e = .returned (.bool true) ∧ w.grownBy w' none := by
  have AW := Lib.hid (fun w => awake_calls w)
  have h1 : (100 : Int) < s.size := by omega
  clear hs
  go_enter Tryd.func4, Tryd.ntmps4
  go_wp2_with fail
  refine (AW.out _).mono ?_
  rintro e w9 ⟨rfl, g9⟩
  have G9 := Lib.hid g9
  clear g9
  go_wp2
  go_ret
  exact ⟨rfl, G9.out⟩

set_option maxRecDepth 100000 in
set_option maxHeartbeats 8000000 in
theorem parses_near (s : ByteArray) (m : Int) (w : World) (hs : s.size ≤ 100) (hm : w.cell? ⟨0, 0, none⟩ = some (.int .i64 m)) :
    Calls Tryd.prog 4 #[.string s] w fun e w' => e = .returned (.bool true) ∧ w.grownBy w' none := by
  have AW := Lib.hid (fun w => awake_calls w)
  have P := fun w' (g : w.grownBy w' none) => parse_calls s m w' (by omega) (g.cell hm (by simp))
  have R := fun w' => rparse_calls s w' hs
  rw [parse_same] at P
  obtain ⟨⟨K, X, A, ok⟩, hr⟩ : ∃ r, rparse s.data.toList = r := ⟨_, rfl⟩
  rw [hr] at P R
  clear hr hm
  cases ok with
  | false =>
    simp only [okV, tup4, Bool.false_eq_true, if_false] at P R
    have P := Lib.hid P
    have R := Lib.hid R
    go_enter Tryd.func4, Tryd.ntmps4
    go_wp2_with fail
    refine (P.out _ (gb_refl _ _)).mono ?_
    rintro e w1 ⟨rfl, g1⟩
    have G1 := Lib.hid g1
    clear g1
    go_wp2_with fail
    refine (R.out _).mono ?_
    rintro e w2 ⟨rfl, g2⟩
    have b0 := old1 g2 (by simp)
    have c0 := blk_cell b0 0
    have c1 := blk_cell b0 1
    have c2 := blk_cell b0 2
    simp only [List.getElem?_toArray, List.getElem?_cons_succ, List.getElem?_cons_zero] at c0 c1 c2
    have G2 := Lib.hid (gb_trans (gb_trans G1.out (World.grownBy_alloc _ _ none)) g2)
    clear g2 G1 b0
    go_wp2_with fail
    try go_quiet (fail)
    try go_wp2_with fail
    refine (AW.out _).mono ?_
    rintro e w9 ⟨rfl, g9⟩
    have G9 := Lib.hid (gb_trans G2.out g9)
    clear g9
    go_wp2
    go_ret
    exact ⟨rfl, G9.out⟩
  | true =>
    simp only [okV, tup4, if_true] at P R
    have P := Lib.hid P
    have R := Lib.hid R
    go_enter Tryd.func4, Tryd.ntmps4
    go_wp2_with fail
    refine (P.out _ (gb_refl _ _)).mono ?_
    rintro e w1 ⟨rfl, g1⟩
    have G1 := Lib.hid g1
    clear g1
    go_wp2_with fail
    refine (R.out _).mono ?_
    rintro e w2 ⟨rfl, g2⟩
    have b0 := old1 g2 (by simp)
    have c0 := blk_cell b0 0
    have c1 := blk_cell b0 1
    have c2 := blk_cell b0 2
    simp only [List.getElem?_toArray, List.getElem?_cons_succ, List.getElem?_cons_zero] at c0 c1 c2
    have G2 := Lib.hid (gb_trans (gb_trans G1.out (World.grownBy_alloc _ _ none)) g2)
    clear g2 G1 b0
    go_wp2_with fail
    try go_quiet (fail)
    try go_wp2_with fail
    refine (AW.out _).mono ?_
    rintro e w9 ⟨rfl, g9⟩
    have G9 := Lib.hid (gb_trans G2.out g9)
    clear g9
    go_wp2
    go_ret
    exact ⟨rfl, G9.out⟩

theorem parses_walk (s : ByteArray) (m : Int) (w : World) (hb : s.size ≤ 9223372036854775807) (hm : w.cell? ⟨0, 0, none⟩ = some (.int .i64 m)) :
    Calls Tryd.prog 4 #[.string s] w fun e w' => e = .returned (.bool true) ∧ w.grownBy w' none := by
  by_cases h : s.size ≤ 100
  · exact parses_near s m w h hm
  · exact parses_far s w (by omega) hb

end Go.Proofs.YtdcmbjhjfdjdhaaDoor.Fa
