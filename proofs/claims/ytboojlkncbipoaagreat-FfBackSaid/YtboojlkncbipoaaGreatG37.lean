/- Texts of one kind, one behind the other: Fb1, Fb2, Fb3. -/
import Derived.BigRegion
import Derived.Deep.Cut
import Derived.Deep.RegionHeld3
import Derived.Test.YtboojlkncbipoaaGreatG21
import Derived.Test.YtboojlkncbipoaaGreatG23
import Derived.Test.YtboojlkncbipoaaGreatG35
import Derived.Test.YtboojlkncbipoaaGreatG36
/- The law of layer 27: an image that is written, walked. -/
namespace Go.Proofs.YtboojlkncbipoaaGreat.Fb
open Go.ChangeShapes Go.WideShapes Go.ChangeAt Go.RowKit
open Go.Proofs.YtboojlkncbipoaaGreat.Le Go.Proofs.YtboojlkncbipoaaGreat.Tk Go.Proofs.YtboojlkncbipoaaGreat.Sc Go.Proofs.YtboojlkncbipoaaGreat.Sr Go.Proofs.YtboojlkncbipoaaGreat.Ra Go.Proofs.YtboojlkncbipoaaGreat.Sh Go.Proofs.YtboojlkncbipoaaGreat.Ff Go.Proofs.YtboojlkncbipoaaGreat.Fw Go.Proofs.YtboojlkncbipoaaGreat.Fp
set_option linter.unusedVariables false

set_option maxRecDepth 100000 in
set_option maxHeartbeats 1000000 in
theorem back_far (X Y : Int) (a : Option Addr) (n c : Nat) (W : World) (hn : n ≤ 9223372036854775807) (h : 2000 < n ∨ 60 < X ∨ 60 < Y) :
    Calls Tryz.prog 8 #[.agg #[.int .i64 X, .int .i64 Y, .slice a n c]] W fun e w' => e = .returned (.bool true) ∧ W.grownBy w' none := by
  have KAW := Lib.hid (fun u => Ff.awake_calls u)
  have HG := Lib.hid (World.grownBy_alloc W (.cells #[.int .i64 X, .int .i64 Y, .slice a n c] 27) none)
  by_cases h1 : 2000 < n
  case' pos => have d1 : (2000 : Int) < (n : Int) := by omega
  case' neg =>
    have d1 : ¬ (2000 : Int) < (n : Int) := by omega
    by_cases h2 : 60 < X
    case' neg =>
      have h3 : 60 < Y := by omega
  all_goals
    go_enter Tryz.func8, Tryz.ntmps8
    go_wp2_with fail
    refine (KAW.out _).mono ?_
    rintro e w9 ⟨rfl, g9⟩
    have G9 := Lib.hid (gb_trans HG.out g9)
    clear g9
    go_wp2
    go_ret
    exact ⟨rfl, G9.out⟩

set_option maxRecDepth 100000 in
set_option maxHeartbeats 1000000 in
theorem back_wrong (X Y : Int) (a : Option Addr) (n c : Nat) (W : World) (hn : n ≤ 2000) (hX : X ≤ 60) (hY : Y ≤ 60) (hr : rightB X Y n = false) :
    Calls Tryz.prog 8 #[.agg #[.int .i64 X, .int .i64 Y, .slice a n c]] W fun e w' => e = .returned (.bool true) ∧ W.grownBy w' none := by
  have KAW := Lib.hid (fun u => Ff.awake_calls u)
  have KW := Lib.hid (fun u => write_wrong X Y a n c u (by omega) hr)
  have KR := Lib.hid (fun u => rright_calls X Y a n c u (by omega))
  rw [hr] at KR
  have HG := Lib.hid (World.grownBy_alloc W (.cells #[.int .i64 X, .int .i64 Y, .slice a n c] 27) none)
  have HI := Lib.hid (blk_at (w := W) (o := .cells #[.int .i64 X, .int .i64 Y, .slice a n c] 27))
  have d1 : ¬ (2000 : Int) < (n : Int) := by omega
  have d2 : ¬ (60 : Int) < X := by omega
  have d3 : ¬ (60 : Int) < Y := by omega
  clear hr hn hX hY
  go_enter Tryz.func8, Tryz.ntmps8
  go_wp2_with fail
  refine (KW.out _).mono ?_
  rintro e w1 ⟨rfl, g1⟩
  have HG1 := Lib.hid (gb_trans HG.out g1)
  have HI1 := Lib.hid ((g1.block _ (blk_lt HI.out) (by simp)).trans HI.out)
  have x0 : w1.cell? ⟨W.heap.size, 0, none⟩ = some (.int .i64 X) := blk_cell HI1.out 0
  have x1 : w1.cell? ⟨W.heap.size, 1, none⟩ = some (.int .i64 Y) := blk_cell HI1.out 1
  have x2 : w1.cell? ⟨W.heap.size, 2, none⟩ = some (.slice a n c) := blk_cell HI1.out 2
  clear g1 HG HI
  go_wp2_with fail
  refine (KR.out _).mono ?_
  rintro e w2 ⟨rfl, g2⟩
  have HG2 := Lib.hid (gb_trans HG1.out g2)
  clear g2 HG1 HI1
  go_wp2_with fail
  refine (KAW.out _).mono ?_
  rintro e w9 ⟨rfl, g9⟩
  have G9 := Lib.hid (gb_trans HG2.out g9)
  clear g9
  go_wp2
  go_ret
  exact ⟨rfl, G9.out⟩

end Go.Proofs.YtboojlkncbipoaaGreat.Fb

/- The law of layer 27: a right image is written and read again, walked. -/
namespace Go.Proofs.YtboojlkncbipoaaGreat.Fb
open Go.ChangeShapes Go.WideShapes Go.ChangeAt Go.RowKit
open Go.Proofs.YtboojlkncbipoaaGreat.Le Go.Proofs.YtboojlkncbipoaaGreat.Tk Go.Proofs.YtboojlkncbipoaaGreat.Sc Go.Proofs.YtboojlkncbipoaaGreat.Sr Go.Proofs.YtboojlkncbipoaaGreat.Ra Go.Proofs.YtboojlkncbipoaaGreat.Sh Go.Proofs.YtboojlkncbipoaaGreat.Ff Go.Proofs.YtboojlkncbipoaaGreat.Fw Go.Proofs.YtboojlkncbipoaaGreat.Fp
set_option linter.unusedVariables false

set_option maxRecDepth 100000 in
set_option maxHeartbeats 4000000 in
theorem back_good (X Y n4 : Nat) (a : Option Addr) (c : Nat) (S : ByteArray) (W : World) (hB : Bx a S W) (hn4 : S.size = n4) (hn : n4 ≤ 2000) (hX : X ≤ 60) (hY : Y ≤ 60) (hX1 : 1 ≤ X) (hY1 : 1 ≤ Y) (hS : S.size = 4 * (X * Y)) (hr : rightB X Y S.size = true) :
    Calls Tryz.prog 8 #[.agg #[.int .i64 X, .int .i64 Y, .slice a n4 c]] W fun e w' => e = .returned (.bool true) ∧ W.grownBy w' none := by
  have hp : 1 ≤ X * Y := Nat.mul_pos hX1 hY1
  have hq : 4 * (X * Y) = n4 := by omega
  have hXY : X * Y ≤ 500 := by omega
  have KAW := Lib.hid (fun u => Ff.awake_calls u)
  have KWI := Lib.hid (fun u => wide_calls u)
  have KW := fun u (h : Bx a S u) => write_good X Y a c S u h (by omega) (by omega) (by omega) (by omega) hr
  have KRW := fun u (h : Bx a S u) => rwrite_calls X Y a c S u h (by omega) (by omega) (by omega) (by omega)
  have KR := fun u => rright_calls X Y a S.size c u (by omega)
  rw [hr] at KR
  have KN := fun u => run15_calls (ffT X Y S) ⟨0, 0, X, Y, 1 + 2 * (X * Y), S⟩ (td_of (T_good X Y S (X * Y) rfl hS hX1 (by omega) hY1 (by omega))) 16384 16384 262144 1048576 u (by rw [T_size]; omega) (by decide) (by decide) (by decide) (by decide)
  have KSM := fun u g (h1 : Bx (some ⟨g, 0, none⟩) S u) (h2 : Bx a S u) => rsame_calls X Y X Y (some ⟨g, 0, none⟩) a n4 c S S u h1 h2
  simp only [sameB_self, hn4] at KSM KW KRW KR
  obtain ⟨T, hT⟩ : ∃ T, ffT X Y S = T := ⟨_, rfl⟩
  rw [hT] at KN
  simp only [hT] at KW KRW
  have KW := Lib.hid KW
  have KRW := Lib.hid KRW
  have KR := Lib.hid KR
  have KN := Lib.hid KN
  have KSM := Lib.hid KSM
  have HBX := Lib.hid hB
  have HQ := Lib.hid (And.intro hq hXY)
  have HG := Lib.hid (World.grownBy_alloc W (.cells #[.int .i64 X, .int .i64 Y, .slice a n4 c] 27) none)
  have HI := Lib.hid (blk_at (w := W) (o := .cells #[.int .i64 X, .int .i64 Y, .slice a n4 c] 27))
  have d1 : ¬ (2000 : Int) < (n4 : Int) := by omega
  have d2 : ¬ (60 : Int) < (X : Int) := by omega
  have d3 : ¬ (60 : Int) < (Y : Int) := by omega
  clear hr hn hX hY hp hq hXY hS hX1 hY1 hn4 hB hT
  go_enter Tryz.func8, Tryz.ntmps8
  go_wp2_with fail
  refine (KW.out _ (HBX.out.grown HG.out)).mono ?_
  rintro e w1 ⟨rfl, g1⟩
  have HG1 := Lib.hid (gb_trans HG.out g1)
  have HI1 := Lib.hid ((g1.block _ (blk_lt HI.out) (by simp)).trans HI.out)
  have x0 : w1.cell? ⟨W.heap.size, 0, none⟩ = some (.int .i64 X) := blk_cell HI1.out 0
  have x1 : w1.cell? ⟨W.heap.size, 1, none⟩ = some (.int .i64 Y) := blk_cell HI1.out 1
  have x2 : w1.cell? ⟨W.heap.size, 2, none⟩ = some (.slice a n4 c) := blk_cell HI1.out 2
  clear g1 HG HI KW
  go_wp2_with fail
  refine (KR.out _).mono ?_
  rintro e w2 ⟨rfl, g2⟩
  have HG2 := Lib.hid (gb_trans HG1.out g2)
  have HI2 := Lib.hid ((g2.block _ (blk_lt HI1.out) (by simp)).trans HI1.out)
  clear g2 HG1 HI1 KR x0 x1 x2
  go_wp2_with fail
  refine (KWI.out _).mono ?_
  rintro e w3 ⟨rfl, g3⟩
  have HG3 := Lib.hid (gb_trans HG2.out g3)
  have HI3 := Lib.hid ((g3.block _ (blk_lt HI2.out) (by simp)).trans HI2.out)
  clear g3 HG2 HI2
  go_wp2_with fail
  refine (KN.out w3).mono ?_
  rintro e w4 ⟨img, fault, l, rfl, y, L3, yok, lim, g4, H3⟩
  have e1 : (St.new 16384 16384 262144 1048576).w = 16384 ∧ (St.new 16384 16384 262144 1048576).h = 16384 ∧ (St.new 16384 16384 262144 1048576).b = 262144 ∧ (St.new 16384 16384 262144 1048576).s = 1048576 := ⟨by decide, by decide, by decide, by decide⟩
  rw [e1.1, e1.2.1, e1.2.2.1, e1.2.2.2] at H3
  clear e1 yok lim L3 KN
  simp only at H3
  rw [HQ.out.1] at H3
  rcases H3 with ⟨z0, ⟨g, rfl, hb, hsA⟩, rfl, hby, hr, hw, hh⟩ | ⟨z0, _⟩ | ⟨hno, _⟩
  · simp only [okT]
    have HG4 := Lib.hid (gb_trans HG3.out g4)
    have HI4 := Lib.hid ((g4.block _ (blk_lt HI3.out) (by simp)).trans HI3.out)
    have HB4 := Lib.hid (bx_of hb)
    clear g4 HG3 HI3 hb hsA hby hr hw hh z0
    have gg := gb_trans (World.grownBy_alloc w4 (.cells #[.int .i64 X, .int .i64 Y, .slice (some ⟨g, 0, none⟩) n4 n4] 27) none) (World.grownBy_alloc _ (.cells #[.int .i64 0, .int .i64 0, .int .i64 0] 29) none)
    have I5 : ((w4.alloc (.cells #[.int .i64 X, .int .i64 Y, .slice (some ⟨g, 0, none⟩) n4 n4] 27)).alloc (.cells #[.int .i64 0, .int .i64 0, .int .i64 0] 29)).heap[w4.heap.size]? = some (.cells #[.int .i64 X, .int .i64 Y, .slice (some ⟨g, 0, none⟩) n4 n4] 27 (0, 0)) := blk_al blk_at _
    have F5 : ((w4.alloc (.cells #[.int .i64 X, .int .i64 Y, .slice (some ⟨g, 0, none⟩) n4 n4] 27)).alloc (.cells #[.int .i64 0, .int .i64 0, .int .i64 0] 29)).heap[w4.heap.size + 1]? = some (.cells #[.int .i64 0, .int .i64 0, .int .i64 0] 29 (0, 0)) := by
      rw [← size_alloc w4 (.cells #[.int .i64 X, .int .i64 Y, .slice (some ⟨g, 0, none⟩) n4 n4] 27)]
      exact blk_at
    have HG5 := Lib.hid (gb_trans HG4.out gg)
    have HM5 := Lib.hid ((gg.block _ (blk_lt HI4.out) (by simp)).trans HI4.out)
    have HB5 := Lib.hid (HB4.out.grown gg)
    have HI5 := Lib.hid I5
    have HF5 := Lib.hid F5
    have HLT := Lib.hid (blk_lt HI4.out)
    clear gg I5 F5 HG4 HI4 HB4
    go_upto_region 7 with fail
    generalize (w4.alloc (.cells #[.int .i64 X, .int .i64 Y, .slice (some ⟨g, 0, none⟩) n4 n4] 27)).alloc (.cells #[.int .i64 0, .int .i64 0, .int .i64 0] 29) = w5 at HG5 HM5 HB5 HI5 HF5 ⊢
    obtain ⟨j, hj⟩ : ∃ j, w4.heap.size = j := ⟨_, rfl⟩
    rw [hj] at HI5 HF5 HLT ⊢
    clear hj
    have x0 : w5.cell? ⟨W.heap.size, 0, none⟩ = some (.int .i64 X) := blk_cell HM5.out 0
    have x1 : w5.cell? ⟨W.heap.size, 1, none⟩ = some (.int .i64 Y) := blk_cell HM5.out 1
    have x2 : w5.cell? ⟨W.heap.size, 2, none⟩ = some (.slice a n4 c) := blk_cell HM5.out 2
    go_wp2_with fail
    refine (KRW.out _ (HBX.out.grown HG5.out)).mono ?_
    rintro e w6 ⟨rfl, g6⟩
    have HG6 := Lib.hid (gb_trans HG5.out g6)
    have HB6 := Lib.hid (HB5.out.grown g6)
    have I6 := (g6.block _ (blk_lt HI5.out) (by simp)).trans HI5.out
    have F6 := (g6.block _ (blk_lt HF5.out) (by simp)).trans HF5.out
    have M6 := (g6.block _ (blk_lt HM5.out) (by simp)).trans HM5.out
    clear x0 x1 x2 g6 HG5 HB5 HI5 HF5 HM5 KRW
    have i0 := blk_cell I6 0
    have i1 := blk_cell I6 1
    have i2 := blk_cell I6 2
    have p0 := blk_cell F6 0
    have p1 := blk_cell F6 1
    have p2 := blk_cell F6 2
    have x0 := blk_cell M6 0
    have x1 := blk_cell M6 1
    have x2 := blk_cell M6 2
    simp only [List.getElem?_toArray, List.getElem?_cons_succ, List.getElem?_cons_zero] at i0 i1 i2 p0 p1 p2 x0 x1 x2
    clear I6 F6 M6
    go_wp2_with fail
    refine (KSM.out _ g HB6.out (HBX.out.grown HG6.out)).mono ?_
    rintro e w7 ⟨rfl, g7⟩
    have HG7 := Lib.hid (gb_trans HG6.out g7)
    clear g7 HG6 HB6 KSM i0 i1 i2 p0 p1 p2 x0 x1 x2
    go_wp2_with fail
    refine (KAW.out _).mono ?_
    rintro e w9 ⟨rfl, g9⟩
    have G9 := Lib.hid (gb_trans HG7.out g9)
    clear g9
    go_wp2
    go_ret
    exact ⟨rfl, G9.out⟩
  · exact absurd rfl z0
  · exfalso
    have := HQ.out
    omega

end Go.Proofs.YtboojlkncbipoaaGreat.Fb

/- The law of layer 27: an image that is written, for any image. -/
namespace Go.Proofs.YtboojlkncbipoaaGreat.Fb
open Go.ChangeShapes Go.WideShapes Go.ChangeAt Go.RowKit
open Go.Proofs.YtboojlkncbipoaaGreat.Le Go.Proofs.YtboojlkncbipoaaGreat.Ra
set_option linter.unusedVariables false

theorem back_any (X Y : Int) (a : Option Addr) (c : Nat) (S : ByteArray) (W : World) (hB : Bx a S W) (hn : S.size ≤ 9223372036854775807) :
    Calls Tryz.prog 8 #[.agg #[.int .i64 X, .int .i64 Y, .slice a S.size c]] W fun e w' => e = .returned (.bool true) ∧ W.grownBy w' none := by
  by_cases h : 2000 < S.size ∨ 60 < X ∨ 60 < Y
  · exact back_far X Y a S.size c W hn h
  · have h1 : S.size ≤ 2000 := by omega
    have h2 : X ≤ 60 := by omega
    have h3 : Y ≤ 60 := by omega
    cases hr : rightB X Y S.size with
    | false => exact back_wrong X Y a S.size c W h1 h2 h3 hr
    | true =>
      have hr' := hr
      simp only [rightB, Bool.and_eq_true, decide_eq_true_eq] at hr'
      obtain ⟨⟨⟨⟨x1, x2⟩, y1⟩, y2⟩, e⟩ := hr'
      obtain ⟨x, rfl⟩ : ∃ x : Nat, X = (x : Int) := ⟨X.toNat, by omega⟩
      obtain ⟨y, rfl⟩ : ∃ y : Nat, Y = (y : Int) := ⟨Y.toNat, by omega⟩
      have e' : S.size = 4 * (x * y) := by
        have : ((4 * (x * y) : Nat) : Int) = 4 * (x : Int) * (y : Int) := by rw [Int.natCast_mul, Int.natCast_mul, ← Int.mul_assoc]; rfl
        omega
      exact back_good x y S.size a c S W hB rfl h1 (by omega) (by omega) (by omega) (by omega) e' hr

theorem back_of {X Y : Int} {v : Value} {w : World} {a : Option Addr} {c : Nat} {S : ByteArray} (e1 : v = .slice a S.size c)
    (h : Calls Tryz.prog 8 #[.agg #[.int .i64 X, .int .i64 Y, .slice a S.size c]] w fun e w' => e = .returned (.bool true) ∧ w.grownBy w' none) :
    Calls Tryz.prog 8 #[.agg #[.int .i64 X, .int .i64 Y, v]] w fun e w' => e = .returned (.bool true) ∧ w.grownBy w' none := by
  subst e1; exact h

end Go.Proofs.YtboojlkncbipoaaGreat.Fb
