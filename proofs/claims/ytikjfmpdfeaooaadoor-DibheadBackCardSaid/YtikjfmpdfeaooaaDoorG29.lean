/- Texts of one kind, one behind the other: DiS108, DiS124, DiR1, DiR2, DiR3, DiR4. -/
import Derived.Deep.RegionHeld3
import Derived.Test.YtikjfmpdfeaooaaDoorG06
import Derived.Test.YtikjfmpdfeaooaaDoorG18
import Derived.Test.YtikjfmpdfeaooaaDoorG28
/- The document's Read of a long head, from its start on (written by wip/gen/di3.py). -/
namespace Go.Proofs.YtikjfmpdfeaooaaDoor.Dh
open Go.ChangeShapes Go.WideShapes Go.ChangeAt Go.RowKit
open Go.Proofs.YtikjfmpdfeaooaaDoor.Le Go.Proofs.YtikjfmpdfeaooaaDoor.Sr Go.Proofs.YtikjfmpdfeaooaaDoor.Ma
set_option linter.unusedVariables false

set_option maxRecDepth 100000 in
set_option maxHeartbeats 16000000 in
theorem rlong_108 (s z : ByteArray) (fr to K : Nat) (X Y P D M C : Int) (RV MV : Array Value) (W : World) (DVh : DV fr 108 K X Y P D M C RV MV) (hz : s.extract fr (fr + 108) = z) (hto : fr + 108 ≤ to) (hts : to ≤ s.size) (hsm : s.size ≤ 9223372036854775807) (hn4 : w4 s fr = 108)
    (hX : sgn (w4 z 4) = X) (hY : sgn (w4 z 8) = Y) (hP : ((w2 z 12 : Nat) : Int) = P) (hD : ((w2 z 14 : Nat) : Int) = D) (hM : ((w4 z 16 : Nat) : Int) = M) (hC : ((w4 z 32 : Nat) : Int) = C) (KM0 : ∀ u, Calls Tryd.prog 35 #[.string s, .agg #[.int .i64 (108 : Nat), .int .i64 X, .int .i64 (fa Y), .bool (decide (Y < 0)), .int .i64 D, .int .i64 M, .int .i64 (clrC D C), .int .i64 0, .int .i64 0, .int .i64 0, .int .i64 0, .int .i64 (fr : Nat), .int .i64 ((fr + 108 : Nat)), .int .i64 0, .int .i64 0], .int .i64 (to : Nat)] u fun e w' => e = .returned (.agg MV) ∧ u.grownBy w' none) (hMV : MVis MV) :
    Calls Tryd.prog 11 #[.string s, .int .i64 (fr : Nat), .int .i64 (to : Nat)] W fun e w' => e = .returned (.agg RV) ∧ W.grownBy w' none := by
  have hzs : z.size = 108 := by rw [← hz, ByteArray.size_extract]; omega
  have HV := Lib.hid DVh
  have KM := Lib.hid KM0
  have HMV := Lib.hid hMV
  have hfr := DVh.fle
  have K4 := fun u => le4_is s fr (by omega) u
  rw [hn4] at K4
  have K4 := Lib.hid (show ∀ u, Calls Tryd.prog 29 #[.string (s.extract fr (fr + 4))] u fun e w' => e = .returned (.int .i64 108) ∧ u = w' from K4)
  have KX0 := fun u => sg4_is z 4 (by omega) u
  have KY0 := fun u => sg4_is z 8 (by omega) u
  have KD0 := fun u => le2_is z 14 (by omega) u
  have KM40 := fun u => le4_is z 16 (by omega) u
  have KC0 := fun u => le4_is z 32 (by omega) u
  have KP0 := fun u => le2_is z 12 (by omega) u
  rw [hX] at KX0
  rw [hY] at KY0
  rw [hD] at KD0
  rw [hM] at KM40
  rw [hC] at KC0
  rw [hP] at KP0
  have KX := Lib.hid KX0
  have KY := Lib.hid KY0
  have KD := Lib.hid KD0
  have KM4 := Lib.hid KM40
  have KC := Lib.hid KC0
  have KP := Lib.hid KP0
  have hYb : -2147483648 ≤ Y ∧ Y ≤ 2147483647 := by have := w4_lt z 8; rw [← hY]; unfold sgn; split <;> omega
  have sN : ∀ w, (Instr.slice 9 (.string s) (some (.int .i64 (fr : Nat))) (some (.int .i64 ((fr + 4 : Nat) : Int))) none).run Tryd.prog w = .ok (.string (s.extract fr (fr + 4))) w := fun w => cut_at s fr 4 (by omega) w
  have sZ : ∀ w, (Instr.slice 9 (.string s) (some (.int .i64 (fr : Nat))) (some (.int .i64 ((fr + 108 : Nat) : Int))) none).run Tryd.prog w = .ok (.string z) w := fun w => by rw [← hz]; exact cut_at s fr 108 (by omega) w
  have w4w : IntKind.i64.wrap ((fr : Int) + 4) = ((fr + 4 : Nat) : Int) := by rw [IntWalk.i64_in _ (by omega)]; omega
  have wnw : IntKind.i64.wrap ((fr : Int) + 108) = ((fr + 108 : Nat) : Int) := by rw [IntWalk.i64_in _ (by omega)]; omega
  obtain ⟨d, hd⟩ : ∃ d : Int, (to : Int) - fr = d := ⟨_, rfl⟩
  have wd : IntKind.i64.wrap ((to : Int) - fr) = d := by rw [IntWalk.i64_in _ (by omega)]; exact hd
  have d4 : ¬ d < 4 := by omega
  have dn : ¬ d < 108 := by omega
  obtain ⟨q4, hq4⟩ : ∃ q : Int, ((fr + 4 : Nat) : Int) = q := ⟨_, rfl⟩
  obtain ⟨q, hq⟩ : ∃ q : Int, ((fr + 108 : Nat) : Int) = q := ⟨_, rfl⟩
  have HQ := Lib.hid hq
  rw [hq4] at sN w4w
  rw [hq] at sZ wnw
  have s1 : ∀ w, (Instr.slice 9 (.string z) (some (.int .i64 4)) (some (.int .i64 8)) none).run Tryd.prog w = .ok (.string (z.extract 4 (4 + 4))) w := fun w => cut_at z 4 4 (by omega) w
  have s2 : ∀ w, (Instr.slice 9 (.string z) (some (.int .i64 8)) (some (.int .i64 12)) none).run Tryd.prog w = .ok (.string (z.extract 8 (8 + 4))) w := fun w => cut_at z 8 4 (by omega) w
  have s3 : ∀ w, (Instr.slice 9 (.string z) (some (.int .i64 14)) (some (.int .i64 16)) none).run Tryd.prog w = .ok (.string (z.extract 14 (14 + 2))) w := fun w => cut_at z 14 2 (by omega) w
  have s4 : ∀ w, (Instr.slice 9 (.string z) (some (.int .i64 16)) (some (.int .i64 20)) none).run Tryd.prog w = .ok (.string (z.extract 16 (16 + 4))) w := fun w => cut_at z 16 4 (by omega) w
  have s5 : ∀ w, (Instr.slice 9 (.string z) (some (.int .i64 32)) (some (.int .i64 36)) none).run Tryd.prog w = .ok (.string (z.extract 32 (32 + 4))) w := fun w => cut_at z 32 4 (by omega) w
  have HZS := Lib.hid hzs
  have wY : IntKind.i64.wrap (-Y) = -Y := by rw [IntKind.wrap_i64]; omega
  have wY' : IntKind.i64.wrap (0 - Y) = -Y := by rw [IntKind.wrap_i64]; omega
  clear DVh KM0 hMV KX0 KY0 KD0 KM40 KC0 KP0 hX hY hD hM hC hP hn4 hto hts hsm hd hq4 hq hz hYb
  go_enter Tryd.func11, Tryd.ntmps11
  go_wp2_with fail
  refine (K4.out _).mono ?_
  rintro e w' ⟨rfl, rfl⟩
  go_upto_region 13 with fail
  have hl0 : W.heap.size < (W.alloc (.cells #[.int .i64 0, .int .i64 0, .int .i64 0, .bool false, .int .i64 0, .int .i64 0, .int .i64 0, .int .i64 0, .int .i64 0, .int .i64 0, .int .i64 0, .int .i64 0, .int .i64 0, .int .i64 0, .int .i64 0] 37)).heap.size := by rw [size_alloc]; omega
  have hl1 : (W.alloc (.cells #[.int .i64 0, .int .i64 0, .int .i64 0, .bool false, .int .i64 0, .int .i64 0, .int .i64 0, .int .i64 0, .int .i64 0, .int .i64 0, .int .i64 0, .int .i64 0, .int .i64 0, .int .i64 0, .int .i64 0] 37)).heap.size = W.heap.size + 1 := size_alloc _ _
  have R0 := blk_at (w := W) (o := .cells #[.int .i64 0, .int .i64 0, .int .i64 0, .bool false, .int .i64 0, .int .i64 0, .int .i64 0, .int .i64 0, .int .i64 0, .int .i64 0, .int .i64 0, .int .i64 0, .int .i64 0, .int .i64 0, .int .i64 0] 37)
  have G0 := World.grownBy_alloc W (.cells #[.int .i64 0, .int .i64 0, .int .i64 0, .bool false, .int .i64 0, .int .i64 0, .int .i64 0, .int .i64 0, .int .i64 0, .int .i64 0, .int .i64 0, .int .i64 0, .int .i64 0, .int .i64 0, .int .i64 0] 37) none
  generalize W.alloc (.cells #[.int .i64 0, .int .i64 0, .int .i64 0, .bool false, .int .i64 0, .int .i64 0, .int .i64 0, .int .i64 0, .int .i64 0, .int .i64 0, .int .i64 0, .int .i64 0, .int .i64 0, .int .i64 0, .int .i64 0] 37) = w0 at R0 G0 hl0 hl1 ⊢
  go_region_held3 (fun _ => True) (trivial)
    (first
      | (go_at_call 31; with_reducible refine (KX.out _).mono ?_; rintro e w' ⟨rfl, rfl⟩)
      | (go_at_call 31; with_reducible refine (KY.out _).mono ?_; rintro e w' ⟨rfl, rfl⟩)
      | (go_at_call 29; with_reducible refine (KD.out _).mono ?_; rintro e w' ⟨rfl, rfl⟩)
      | (go_at_call 29; with_reducible refine (KM4.out _).mono ?_; rintro e w' ⟨rfl, rfl⟩)
      | (go_at_call 29; with_reducible refine (KC.out _).mono ?_; rintro e w' ⟨rfl, rfl⟩))
  all_goals
    refine abs_w (R := DI W (W.heap.size + 1) #[.int .i64 108, .int .i64 X, .int .i64 Y, .bool false, .int .i64 D, .int .i64 M, .int .i64 C, .int .i64 0, .int .i64 0, .int .i64 0, .int .i64 0, .int .i64 (fr : Nat), .int .i64 q, .int .i64 0, .int .i64 0]) ⟨?_, ?_, ?_, ?_⟩ (fun w5 I => ?_)
    · first | exact blk_al R0 _ | exact (blk_al (w := w0.drew) R0 _)
    · first | (rw [← hl1]; exact blk_at (w := w0)) | (rw [← hl1]; exact blk_at (w := w0.drew))
    · first | exact gb_trans (gb_trans G0 (World.grownBy_alloc w0 _ none)) (gb_drew _ _) | exact gb_trans (gb_trans G0 (gb_drew w0 _)) (World.grownBy_alloc w0.drew _ none)
    · omega
    have HI := Lib.hid I
    have f2 := blk_free I.hd 2
    have f3 := blk_free I.hd 3
    have a0 := blk_cell I.hd 0
    have a1 := blk_cell I.hd 1
    have a2 := blk_cell I.hd 2
    have a3 := blk_cell I.hd 3
    have a4 := blk_cell I.hd 4
    have a5 := blk_cell I.hd 5
    have a6 := blk_cell I.hd 6
    have a7 := blk_cell I.hd 7
    have a8 := blk_cell I.hd 8
    have a9 := blk_cell I.hd 9
    have a10 := blk_cell I.hd 10
    have a11 := blk_cell I.hd 11
    have a12 := blk_cell I.hd 12
    have a13 := blk_cell I.hd 13
    have a14 := blk_cell I.hd 14
    simp only [List.getElem?_toArray, List.getElem?_cons_succ, List.getElem?_cons_zero] at a0 a1 a2 a3 a4 a5 a6 a7 a8 a9 a10 a11 a12 a13 a14
    have hlx := blk_lt I.hd
    clear I
    have ne1 : W.heap.size ≠ W.heap.size + 1 := by omega
    have ne2 : W.heap.size + 1 ≠ W.heap.size := by omega
    clear R0 G0 hl0 hl1 KX KY KD KM4 KC K4 sN sZ w4w wnw wd d4 dn s1 s2 s3 s4 s5
    by_cases hY : Y < 0
    · have dY : decide (Y < 0) = true := decide_eq_true hY
      have fY : fa Y = -Y := if_neg (by omega)
      have HY2 := Lib.hid (And.intro dY fY)
      clear dY fY
      go_upto_region 17 with fail
      refine abs_w (R := DI W (W.heap.size + 1) #[.int .i64 108, .int .i64 X, .int .i64 (fa Y), .bool (decide (Y < 0)), .int .i64 D, .int .i64 M, .int .i64 C, .int .i64 0, .int .i64 0, .int .i64 0, .int .i64 0, .int .i64 (fr : Nat), .int .i64 q, .int .i64 0, .int .i64 0]) ?_ (fun w7 I7 => ?_)
      · rw [HY2.out.1, HY2.out.2]
        exact ⟨blk_other (blk_other HI.out.res ne1) ne1, blk_set (blk_set HI.out.hd 3 _) 2 _, gb_own (gb_own HI.out.gb (Nat.le_succ _) (gb_set _ _ _ _)) (Nat.le_succ _) (gb_set _ _ _ _), HI.out.lt⟩
      have hq := HQ.out
      subst hq
      exact from10 s z fr to 108 K X Y P D M C RV MV W HV.out KM.out KP.out (by have := HZS.out; omega) (by have := HZS.out; omega) HMV.out (Nat.zero_le _) (W.heap.size + 1) w7 I7 _ _ _ _ _ _ _ _ _ _ _ _ _ _ _ _ _ _ _ _ _ _ _ _ _ _ _ _ _ _ _ _ _ _ _ _ _ _ _ _ _ _ _ _ _ _ _ _ _ _ _ _ _ _ _ _ _ _ _ _ _ _ _ _ _ _ _ _ _ _ _ _ _ _ _ _ _ _ _ _ _ _ _ _ _ _ _ _ _ _ _ _ _ _ _ _ _ _ _ _ _ _ _ _ _ _ _ _ _ _ _ _ _ _ _ _ _ _ _ _ _ _ _ _ _ _ _ _ _ _ _ _ _ _ _ _ _ _ _ _ _ _ _ _ _ _ _ _ _ _ _ _ _ _ _ _ _ _ _ _ _ _ _ _ _ _ _ _ _ _ _ _ _ _ _ _ _ _ _ _ _ _ _ _ _ _ _ _ _ _ _ _ _ _ _ _ _ _ _ _ _ _ _ _ _ _ _ _ _ _ _ _ _ _ _ _ _ _ _ _ _ _ _ _ (by assumption) (by assumption)
    · have dY : decide (Y < 0) = false := decide_eq_false hY
      have fY : fa Y = Y := if_pos (by omega)
      have HY2 := Lib.hid (And.intro dY fY)
      clear dY fY
      go_upto_region 17 with fail
      have I7 : DI W (W.heap.size + 1) #[.int .i64 108, .int .i64 X, .int .i64 (fa Y), .bool (decide (Y < 0)), .int .i64 D, .int .i64 M, .int .i64 C, .int .i64 0, .int .i64 0, .int .i64 0, .int .i64 0, .int .i64 (fr : Nat), .int .i64 q, .int .i64 0, .int .i64 0] w5 := by
        rw [HY2.out.1, HY2.out.2]
        exact HI.out
      have hq := HQ.out
      subst hq
      exact from10 s z fr to 108 K X Y P D M C RV MV W HV.out KM.out KP.out (by have := HZS.out; omega) (by have := HZS.out; omega) HMV.out (Nat.zero_le _) (W.heap.size + 1) w5 I7 _ _ _ _ _ _ _ _ _ _ _ _ _ _ _ _ _ _ _ _ _ _ _ _ _ _ _ _ _ _ _ _ _ _ _ _ _ _ _ _ _ _ _ _ _ _ _ _ _ _ _ _ _ _ _ _ _ _ _ _ _ _ _ _ _ _ _ _ _ _ _ _ _ _ _ _ _ _ _ _ _ _ _ _ _ _ _ _ _ _ _ _ _ _ _ _ _ _ _ _ _ _ _ _ _ _ _ _ _ _ _ _ _ _ _ _ _ _ _ _ _ _ _ _ _ _ _ _ _ _ _ _ _ _ _ _ _ _ _ _ _ _ _ _ _ _ _ _ _ _ _ _ _ _ _ _ _ _ _ _ _ _ _ _ _ _ _ _ _ _ _ _ _ _ _ _ _ _ _ _ _ _ _ _ _ _ _ _ _ _ _ _ _ _ _ _ _ _ _ _ _ _ _ _ _ _ _ _ _ _ _ _ _ _ _ _ _ _ _ _ _ _ _ _ (by assumption) (by assumption)

end Go.Proofs.YtikjfmpdfeaooaaDoor.Dh

/- The document's Read of a long head, from its start on (written by wip/gen/di3.py). -/
namespace Go.Proofs.YtikjfmpdfeaooaaDoor.Dh
open Go.ChangeShapes Go.WideShapes Go.ChangeAt Go.RowKit
open Go.Proofs.YtikjfmpdfeaooaaDoor.Le Go.Proofs.YtikjfmpdfeaooaaDoor.Sr Go.Proofs.YtikjfmpdfeaooaaDoor.Ma
set_option linter.unusedVariables false

set_option maxRecDepth 100000 in
set_option maxHeartbeats 16000000 in
theorem rlong_124 (s z : ByteArray) (fr to K : Nat) (X Y P D M C : Int) (RV MV : Array Value) (W : World) (DVh : DV fr 124 K X Y P D M C RV MV) (hz : s.extract fr (fr + 124) = z) (hto : fr + 124 ≤ to) (hts : to ≤ s.size) (hsm : s.size ≤ 9223372036854775807) (hn4 : w4 s fr = 124)
    (hX : sgn (w4 z 4) = X) (hY : sgn (w4 z 8) = Y) (hP : ((w2 z 12 : Nat) : Int) = P) (hD : ((w2 z 14 : Nat) : Int) = D) (hM : ((w4 z 16 : Nat) : Int) = M) (hC : ((w4 z 32 : Nat) : Int) = C) (KM0 : ∀ u, Calls Tryd.prog 35 #[.string s, .agg #[.int .i64 (124 : Nat), .int .i64 X, .int .i64 (fa Y), .bool (decide (Y < 0)), .int .i64 D, .int .i64 M, .int .i64 (clrC D C), .int .i64 0, .int .i64 0, .int .i64 0, .int .i64 0, .int .i64 (fr : Nat), .int .i64 ((fr + 124 : Nat)), .int .i64 0, .int .i64 0], .int .i64 (to : Nat)] u fun e w' => e = .returned (.agg MV) ∧ u.grownBy w' none) (hMV : MVis MV) :
    Calls Tryd.prog 11 #[.string s, .int .i64 (fr : Nat), .int .i64 (to : Nat)] W fun e w' => e = .returned (.agg RV) ∧ W.grownBy w' none := by
  have hzs : z.size = 124 := by rw [← hz, ByteArray.size_extract]; omega
  have HV := Lib.hid DVh
  have KM := Lib.hid KM0
  have HMV := Lib.hid hMV
  have hfr := DVh.fle
  have K4 := fun u => le4_is s fr (by omega) u
  rw [hn4] at K4
  have K4 := Lib.hid (show ∀ u, Calls Tryd.prog 29 #[.string (s.extract fr (fr + 4))] u fun e w' => e = .returned (.int .i64 124) ∧ u = w' from K4)
  have KX0 := fun u => sg4_is z 4 (by omega) u
  have KY0 := fun u => sg4_is z 8 (by omega) u
  have KD0 := fun u => le2_is z 14 (by omega) u
  have KM40 := fun u => le4_is z 16 (by omega) u
  have KC0 := fun u => le4_is z 32 (by omega) u
  have KP0 := fun u => le2_is z 12 (by omega) u
  rw [hX] at KX0
  rw [hY] at KY0
  rw [hD] at KD0
  rw [hM] at KM40
  rw [hC] at KC0
  rw [hP] at KP0
  have KX := Lib.hid KX0
  have KY := Lib.hid KY0
  have KD := Lib.hid KD0
  have KM4 := Lib.hid KM40
  have KC := Lib.hid KC0
  have KP := Lib.hid KP0
  have hYb : -2147483648 ≤ Y ∧ Y ≤ 2147483647 := by have := w4_lt z 8; rw [← hY]; unfold sgn; split <;> omega
  have sN : ∀ w, (Instr.slice 9 (.string s) (some (.int .i64 (fr : Nat))) (some (.int .i64 ((fr + 4 : Nat) : Int))) none).run Tryd.prog w = .ok (.string (s.extract fr (fr + 4))) w := fun w => cut_at s fr 4 (by omega) w
  have sZ : ∀ w, (Instr.slice 9 (.string s) (some (.int .i64 (fr : Nat))) (some (.int .i64 ((fr + 124 : Nat) : Int))) none).run Tryd.prog w = .ok (.string z) w := fun w => by rw [← hz]; exact cut_at s fr 124 (by omega) w
  have w4w : IntKind.i64.wrap ((fr : Int) + 4) = ((fr + 4 : Nat) : Int) := by rw [IntWalk.i64_in _ (by omega)]; omega
  have wnw : IntKind.i64.wrap ((fr : Int) + 124) = ((fr + 124 : Nat) : Int) := by rw [IntWalk.i64_in _ (by omega)]; omega
  obtain ⟨d, hd⟩ : ∃ d : Int, (to : Int) - fr = d := ⟨_, rfl⟩
  have wd : IntKind.i64.wrap ((to : Int) - fr) = d := by rw [IntWalk.i64_in _ (by omega)]; exact hd
  have d4 : ¬ d < 4 := by omega
  have dn : ¬ d < 124 := by omega
  obtain ⟨q4, hq4⟩ : ∃ q : Int, ((fr + 4 : Nat) : Int) = q := ⟨_, rfl⟩
  obtain ⟨q, hq⟩ : ∃ q : Int, ((fr + 124 : Nat) : Int) = q := ⟨_, rfl⟩
  have HQ := Lib.hid hq
  rw [hq4] at sN w4w
  rw [hq] at sZ wnw
  have s1 : ∀ w, (Instr.slice 9 (.string z) (some (.int .i64 4)) (some (.int .i64 8)) none).run Tryd.prog w = .ok (.string (z.extract 4 (4 + 4))) w := fun w => cut_at z 4 4 (by omega) w
  have s2 : ∀ w, (Instr.slice 9 (.string z) (some (.int .i64 8)) (some (.int .i64 12)) none).run Tryd.prog w = .ok (.string (z.extract 8 (8 + 4))) w := fun w => cut_at z 8 4 (by omega) w
  have s3 : ∀ w, (Instr.slice 9 (.string z) (some (.int .i64 14)) (some (.int .i64 16)) none).run Tryd.prog w = .ok (.string (z.extract 14 (14 + 2))) w := fun w => cut_at z 14 2 (by omega) w
  have s4 : ∀ w, (Instr.slice 9 (.string z) (some (.int .i64 16)) (some (.int .i64 20)) none).run Tryd.prog w = .ok (.string (z.extract 16 (16 + 4))) w := fun w => cut_at z 16 4 (by omega) w
  have s5 : ∀ w, (Instr.slice 9 (.string z) (some (.int .i64 32)) (some (.int .i64 36)) none).run Tryd.prog w = .ok (.string (z.extract 32 (32 + 4))) w := fun w => cut_at z 32 4 (by omega) w
  have HZS := Lib.hid hzs
  have wY : IntKind.i64.wrap (-Y) = -Y := by rw [IntKind.wrap_i64]; omega
  have wY' : IntKind.i64.wrap (0 - Y) = -Y := by rw [IntKind.wrap_i64]; omega
  clear DVh KM0 hMV KX0 KY0 KD0 KM40 KC0 KP0 hX hY hD hM hC hP hn4 hto hts hsm hd hq4 hq hz hYb
  go_enter Tryd.func11, Tryd.ntmps11
  go_wp2_with fail
  refine (K4.out _).mono ?_
  rintro e w' ⟨rfl, rfl⟩
  go_upto_region 13 with fail
  have hl0 : W.heap.size < (W.alloc (.cells #[.int .i64 0, .int .i64 0, .int .i64 0, .bool false, .int .i64 0, .int .i64 0, .int .i64 0, .int .i64 0, .int .i64 0, .int .i64 0, .int .i64 0, .int .i64 0, .int .i64 0, .int .i64 0, .int .i64 0] 37)).heap.size := by rw [size_alloc]; omega
  have hl1 : (W.alloc (.cells #[.int .i64 0, .int .i64 0, .int .i64 0, .bool false, .int .i64 0, .int .i64 0, .int .i64 0, .int .i64 0, .int .i64 0, .int .i64 0, .int .i64 0, .int .i64 0, .int .i64 0, .int .i64 0, .int .i64 0] 37)).heap.size = W.heap.size + 1 := size_alloc _ _
  have R0 := blk_at (w := W) (o := .cells #[.int .i64 0, .int .i64 0, .int .i64 0, .bool false, .int .i64 0, .int .i64 0, .int .i64 0, .int .i64 0, .int .i64 0, .int .i64 0, .int .i64 0, .int .i64 0, .int .i64 0, .int .i64 0, .int .i64 0] 37)
  have G0 := World.grownBy_alloc W (.cells #[.int .i64 0, .int .i64 0, .int .i64 0, .bool false, .int .i64 0, .int .i64 0, .int .i64 0, .int .i64 0, .int .i64 0, .int .i64 0, .int .i64 0, .int .i64 0, .int .i64 0, .int .i64 0, .int .i64 0] 37) none
  generalize W.alloc (.cells #[.int .i64 0, .int .i64 0, .int .i64 0, .bool false, .int .i64 0, .int .i64 0, .int .i64 0, .int .i64 0, .int .i64 0, .int .i64 0, .int .i64 0, .int .i64 0, .int .i64 0, .int .i64 0, .int .i64 0] 37) = w0 at R0 G0 hl0 hl1 ⊢
  go_region_held3 (fun _ => True) (trivial)
    (first
      | (go_at_call 31; with_reducible refine (KX.out _).mono ?_; rintro e w' ⟨rfl, rfl⟩)
      | (go_at_call 31; with_reducible refine (KY.out _).mono ?_; rintro e w' ⟨rfl, rfl⟩)
      | (go_at_call 29; with_reducible refine (KD.out _).mono ?_; rintro e w' ⟨rfl, rfl⟩)
      | (go_at_call 29; with_reducible refine (KM4.out _).mono ?_; rintro e w' ⟨rfl, rfl⟩)
      | (go_at_call 29; with_reducible refine (KC.out _).mono ?_; rintro e w' ⟨rfl, rfl⟩))
  all_goals
    refine abs_w (R := DI W (W.heap.size + 1) #[.int .i64 124, .int .i64 X, .int .i64 Y, .bool false, .int .i64 D, .int .i64 M, .int .i64 C, .int .i64 0, .int .i64 0, .int .i64 0, .int .i64 0, .int .i64 (fr : Nat), .int .i64 q, .int .i64 0, .int .i64 0]) ⟨?_, ?_, ?_, ?_⟩ (fun w5 I => ?_)
    · first | exact blk_al R0 _ | exact (blk_al (w := w0.drew) R0 _)
    · first | (rw [← hl1]; exact blk_at (w := w0)) | (rw [← hl1]; exact blk_at (w := w0.drew))
    · first | exact gb_trans (gb_trans G0 (World.grownBy_alloc w0 _ none)) (gb_drew _ _) | exact gb_trans (gb_trans G0 (gb_drew w0 _)) (World.grownBy_alloc w0.drew _ none)
    · omega
    have HI := Lib.hid I
    have f2 := blk_free I.hd 2
    have f3 := blk_free I.hd 3
    have a0 := blk_cell I.hd 0
    have a1 := blk_cell I.hd 1
    have a2 := blk_cell I.hd 2
    have a3 := blk_cell I.hd 3
    have a4 := blk_cell I.hd 4
    have a5 := blk_cell I.hd 5
    have a6 := blk_cell I.hd 6
    have a7 := blk_cell I.hd 7
    have a8 := blk_cell I.hd 8
    have a9 := blk_cell I.hd 9
    have a10 := blk_cell I.hd 10
    have a11 := blk_cell I.hd 11
    have a12 := blk_cell I.hd 12
    have a13 := blk_cell I.hd 13
    have a14 := blk_cell I.hd 14
    simp only [List.getElem?_toArray, List.getElem?_cons_succ, List.getElem?_cons_zero] at a0 a1 a2 a3 a4 a5 a6 a7 a8 a9 a10 a11 a12 a13 a14
    have hlx := blk_lt I.hd
    clear I
    have ne1 : W.heap.size ≠ W.heap.size + 1 := by omega
    have ne2 : W.heap.size + 1 ≠ W.heap.size := by omega
    clear R0 G0 hl0 hl1 KX KY KD KM4 KC K4 sN sZ w4w wnw wd d4 dn s1 s2 s3 s4 s5
    by_cases hY : Y < 0
    · have dY : decide (Y < 0) = true := decide_eq_true hY
      have fY : fa Y = -Y := if_neg (by omega)
      have HY2 := Lib.hid (And.intro dY fY)
      clear dY fY
      go_upto_region 17 with fail
      refine abs_w (R := DI W (W.heap.size + 1) #[.int .i64 124, .int .i64 X, .int .i64 (fa Y), .bool (decide (Y < 0)), .int .i64 D, .int .i64 M, .int .i64 C, .int .i64 0, .int .i64 0, .int .i64 0, .int .i64 0, .int .i64 (fr : Nat), .int .i64 q, .int .i64 0, .int .i64 0]) ?_ (fun w7 I7 => ?_)
      · rw [HY2.out.1, HY2.out.2]
        exact ⟨blk_other (blk_other HI.out.res ne1) ne1, blk_set (blk_set HI.out.hd 3 _) 2 _, gb_own (gb_own HI.out.gb (Nat.le_succ _) (gb_set _ _ _ _)) (Nat.le_succ _) (gb_set _ _ _ _), HI.out.lt⟩
      have hq := HQ.out
      subst hq
      exact from10 s z fr to 124 K X Y P D M C RV MV W HV.out KM.out KP.out (by have := HZS.out; omega) (by have := HZS.out; omega) HMV.out (Nat.zero_le _) (W.heap.size + 1) w7 I7 _ _ _ _ _ _ _ _ _ _ _ _ _ _ _ _ _ _ _ _ _ _ _ _ _ _ _ _ _ _ _ _ _ _ _ _ _ _ _ _ _ _ _ _ _ _ _ _ _ _ _ _ _ _ _ _ _ _ _ _ _ _ _ _ _ _ _ _ _ _ _ _ _ _ _ _ _ _ _ _ _ _ _ _ _ _ _ _ _ _ _ _ _ _ _ _ _ _ _ _ _ _ _ _ _ _ _ _ _ _ _ _ _ _ _ _ _ _ _ _ _ _ _ _ _ _ _ _ _ _ _ _ _ _ _ _ _ _ _ _ _ _ _ _ _ _ _ _ _ _ _ _ _ _ _ _ _ _ _ _ _ _ _ _ _ _ _ _ _ _ _ _ _ _ _ _ _ _ _ _ _ _ _ _ _ _ _ _ _ _ _ _ _ _ _ _ _ _ _ _ _ _ _ _ _ _ _ _ _ _ _ _ _ _ _ _ _ _ _ _ _ _ _ _ (by assumption) (by assumption)
    · have dY : decide (Y < 0) = false := decide_eq_false hY
      have fY : fa Y = Y := if_pos (by omega)
      have HY2 := Lib.hid (And.intro dY fY)
      clear dY fY
      go_upto_region 17 with fail
      have I7 : DI W (W.heap.size + 1) #[.int .i64 124, .int .i64 X, .int .i64 (fa Y), .bool (decide (Y < 0)), .int .i64 D, .int .i64 M, .int .i64 C, .int .i64 0, .int .i64 0, .int .i64 0, .int .i64 0, .int .i64 (fr : Nat), .int .i64 q, .int .i64 0, .int .i64 0] w5 := by
        rw [HY2.out.1, HY2.out.2]
        exact HI.out
      have hq := HQ.out
      subst hq
      exact from10 s z fr to 124 K X Y P D M C RV MV W HV.out KM.out KP.out (by have := HZS.out; omega) (by have := HZS.out; omega) HMV.out (Nat.zero_le _) (W.heap.size + 1) w5 I7 _ _ _ _ _ _ _ _ _ _ _ _ _ _ _ _ _ _ _ _ _ _ _ _ _ _ _ _ _ _ _ _ _ _ _ _ _ _ _ _ _ _ _ _ _ _ _ _ _ _ _ _ _ _ _ _ _ _ _ _ _ _ _ _ _ _ _ _ _ _ _ _ _ _ _ _ _ _ _ _ _ _ _ _ _ _ _ _ _ _ _ _ _ _ _ _ _ _ _ _ _ _ _ _ _ _ _ _ _ _ _ _ _ _ _ _ _ _ _ _ _ _ _ _ _ _ _ _ _ _ _ _ _ _ _ _ _ _ _ _ _ _ _ _ _ _ _ _ _ _ _ _ _ _ _ _ _ _ _ _ _ _ _ _ _ _ _ _ _ _ _ _ _ _ _ _ _ _ _ _ _ _ _ _ _ _ _ _ _ _ _ _ _ _ _ _ _ _ _ _ _ _ _ _ _ _ _ _ _ _ _ _ _ _ _ _ _ _ _ _ _ _ _ _ (by assumption) (by assumption)

end Go.Proofs.YtikjfmpdfeaooaaDoor.Dh

/- The document's Read of fewer than four bytes (written by wip/gen/dir.py). -/
namespace Go.Proofs.YtikjfmpdfeaooaaDoor.Dh
open Go.ChangeShapes Go.WideShapes Go.ChangeAt Go.RowKit
open Go.Proofs.YtikjfmpdfeaooaaDoor.Le Go.Proofs.YtikjfmpdfeaooaaDoor.Sr Go.Proofs.YtikjfmpdfeaooaaDoor.Ma
set_option linter.unusedVariables false

set_option maxRecDepth 100000 in
set_option maxHeartbeats 8000000 in
theorem rread_less4 (s : ByteArray) (fr to : Nat) (W : World) (hts : to ≤ s.size) (hsm : s.size ≤ 9223372036854775807) (hft : fr ≤ to) (hlt : to < fr + 4):
    Calls Tryd.prog 11 #[.string s, .int .i64 (fr : Nat), .int .i64 (to : Nat)] W fun e w' => e = .returned (.agg (badA 1 (to : Nat))) ∧ W.grownBy w' none := by
  obtain ⟨d, hd⟩ : ∃ d : Int, (to : Int) - fr = d := ⟨_, rfl⟩
  have wd : IntKind.i64.wrap ((to : Int) - fr) = d := by rw [IntWalk.i64_in _ (by omega)]; exact hd
  have d4 : d < 4 := by omega
  clear hts hsm hft hd hlt
  have KB := Lib.hid (fun u => rbad_calls 1 (to : Nat) u)
  unfold badA at KB
  go_enter Tryd.func11, Tryd.ntmps11
  go_wp2_with fail
  have hl1 : (W.alloc (.cells #[.int .i64 0, .int .i64 0, .int .i64 0, .bool false, .int .i64 0, .int .i64 0, .int .i64 0, .int .i64 0, .int .i64 0, .int .i64 0, .int .i64 0, .int .i64 0, .int .i64 0, .int .i64 0, .int .i64 0] 37)).heap.size = W.heap.size + 1 := size_alloc _ _
  have R0 := blk_at (w := W) (o := .cells #[.int .i64 0, .int .i64 0, .int .i64 0, .bool false, .int .i64 0, .int .i64 0, .int .i64 0, .int .i64 0, .int .i64 0, .int .i64 0, .int .i64 0, .int .i64 0, .int .i64 0, .int .i64 0, .int .i64 0] 37)
  have G0 := World.grownBy_alloc W (.cells #[.int .i64 0, .int .i64 0, .int .i64 0, .bool false, .int .i64 0, .int .i64 0, .int .i64 0, .int .i64 0, .int .i64 0, .int .i64 0, .int .i64 0, .int .i64 0, .int .i64 0, .int .i64 0, .int .i64 0] 37) none
  generalize W.alloc (.cells #[.int .i64 0, .int .i64 0, .int .i64 0, .bool false, .int .i64 0, .int .i64 0, .int .i64 0, .int .i64 0, .int .i64 0, .int .i64 0, .int .i64 0, .int .i64 0, .int .i64 0, .int .i64 0, .int .i64 0] 37) = w0 at R0 G0 hl1 ⊢
  refine (KB.out _).mono ?_
  rintro e w9 ⟨rfl, gx⟩
  have B9 := old0 gx R0 (blk_lt R0) (by simp)
  have r0 := blk_cell B9 0
  have r1 := blk_cell B9 1
  have r2 := blk_cell B9 2
  have r3 := blk_cell B9 3
  have r4 := blk_cell B9 4
  have r5 := blk_cell B9 5
  have r6 := blk_cell B9 6
  have r7 := blk_cell B9 7
  have r8 := blk_cell B9 8
  have r9 := blk_cell B9 9
  have r10 := blk_cell B9 10
  have r11 := blk_cell B9 11
  have r12 := blk_cell B9 12
  have r13 := blk_cell B9 13
  have r14 := blk_cell B9 14
  have rf0 := blk_free B9 0
  have rf1 := blk_free B9 1
  have rf2 := blk_free B9 2
  have rf3 := blk_free B9 3
  have rf4 := blk_free B9 4
  have rf5 := blk_free B9 5
  have rf6 := blk_free B9 6
  have rf7 := blk_free B9 7
  have rf8 := blk_free B9 8
  have rf9 := blk_free B9 9
  have rf10 := blk_free B9 10
  have rf11 := blk_free B9 11
  have rf12 := blk_free B9 12
  have rf13 := blk_free B9 13
  have rf14 := blk_free B9 14
  simp only [List.getElem?_toArray, List.getElem?_cons_succ, List.getElem?_cons_zero] at r0 r1 r2 r3 r4 r5 r6 r7 r8 r9 r10 r11 r12 r13 r14
  have hlr := blk_lt B9
  have G9 := Lib.hid (gb_trans G0 gx)
  clear gx B9 KB R0 G0
  go_wp2
  refine bodyPost_ret (v := .agg (badA 1 (to : Nat))) (by simp only [results, Tryd.results11, badA]; go_simp) rfl ⟨rfl, ?_⟩
  exact gb_own (gb_own (gb_own (gb_own (gb_own (gb_own (gb_own (gb_own (gb_own (gb_own (gb_own (gb_own (gb_own (gb_own (gb_own (G9.out) (Nat.le_refl _) (gb_set _ _ _ _)) (Nat.le_refl _) (gb_set _ _ _ _)) (Nat.le_refl _) (gb_set _ _ _ _)) (Nat.le_refl _) (gb_set _ _ _ _)) (Nat.le_refl _) (gb_set _ _ _ _)) (Nat.le_refl _) (gb_set _ _ _ _)) (Nat.le_refl _) (gb_set _ _ _ _)) (Nat.le_refl _) (gb_set _ _ _ _)) (Nat.le_refl _) (gb_set _ _ _ _)) (Nat.le_refl _) (gb_set _ _ _ _)) (Nat.le_refl _) (gb_set _ _ _ _)) (Nat.le_refl _) (gb_set _ _ _ _)) (Nat.le_refl _) (gb_set _ _ _ _)) (Nat.le_refl _) (gb_set _ _ _ _)) (Nat.le_refl _) (gb_set _ _ _ _)

end Go.Proofs.YtikjfmpdfeaooaaDoor.Dh

/- The document's Read of a size that it does not know (written by wip/gen/dir.py). -/
namespace Go.Proofs.YtikjfmpdfeaooaaDoor.Dh
open Go.ChangeShapes Go.WideShapes Go.ChangeAt Go.RowKit
open Go.Proofs.YtikjfmpdfeaooaaDoor.Le Go.Proofs.YtikjfmpdfeaooaaDoor.Sr Go.Proofs.YtikjfmpdfeaooaaDoor.Ma
set_option linter.unusedVariables false

set_option maxRecDepth 100000 in
set_option maxHeartbeats 8000000 in
theorem rread_is16 (s : ByteArray) (fr to : Nat) (W : World) (hts : to ≤ s.size) (hsm : s.size ≤ 9223372036854775807) (hft : fr ≤ to) (h4 : fr + 4 ≤ to) (hn : w4 s fr = 16):
    Calls Tryd.prog 11 #[.string s, .int .i64 (fr : Nat), .int .i64 (to : Nat)] W fun e w' => e = .returned (.agg (badA 3 (fr : Nat))) ∧ W.grownBy w' none := by
  obtain ⟨d, hd⟩ : ∃ d : Int, (to : Int) - fr = d := ⟨_, rfl⟩
  have wd : IntKind.i64.wrap ((to : Int) - fr) = d := by rw [IntWalk.i64_in _ (by omega)]; exact hd
  have K4 := fun u => le4_is s fr (by omega) u
  rw [hn] at K4
  have K4 := Lib.hid (show ∀ u, Calls Tryd.prog 29 #[.string (s.extract fr (fr + 4))] u fun e w' => e = .returned (.int .i64 16) ∧ u = w' from K4)
  have sN : ∀ w, (Instr.slice 9 (.string s) (some (.int .i64 (fr : Nat))) (some (.int .i64 ((fr + 4 : Nat) : Int))) none).run Tryd.prog w = .ok (.string (s.extract fr (fr + 4))) w := fun w => cut_at s fr 4 (by omega) w
  obtain ⟨q4, hq4⟩ : ∃ q : Int, ((fr + 4 : Nat) : Int) = q := ⟨_, rfl⟩
  have w4w : IntKind.i64.wrap ((fr : Int) + 4) = q4 := by rw [IntWalk.i64_in _ (by omega)]; omega
  rw [hq4] at sN
  have d4 : ¬ d < 4 := by omega
  clear hts hsm hft hd h4 hn hq4
  have KB := Lib.hid (fun u => rbad_calls 3 (fr : Nat) u)
  unfold badA at KB
  go_enter Tryd.func11, Tryd.ntmps11
  go_wp2_with fail
  refine (K4.out _).mono ?_
  rintro e w' ⟨rfl, rfl⟩
  go_wp2_with fail
  have hl1 : (W.alloc (.cells #[.int .i64 0, .int .i64 0, .int .i64 0, .bool false, .int .i64 0, .int .i64 0, .int .i64 0, .int .i64 0, .int .i64 0, .int .i64 0, .int .i64 0, .int .i64 0, .int .i64 0, .int .i64 0, .int .i64 0] 37)).heap.size = W.heap.size + 1 := size_alloc _ _
  have R0 := blk_at (w := W) (o := .cells #[.int .i64 0, .int .i64 0, .int .i64 0, .bool false, .int .i64 0, .int .i64 0, .int .i64 0, .int .i64 0, .int .i64 0, .int .i64 0, .int .i64 0, .int .i64 0, .int .i64 0, .int .i64 0, .int .i64 0] 37)
  have G0 := World.grownBy_alloc W (.cells #[.int .i64 0, .int .i64 0, .int .i64 0, .bool false, .int .i64 0, .int .i64 0, .int .i64 0, .int .i64 0, .int .i64 0, .int .i64 0, .int .i64 0, .int .i64 0, .int .i64 0, .int .i64 0, .int .i64 0] 37) none
  generalize W.alloc (.cells #[.int .i64 0, .int .i64 0, .int .i64 0, .bool false, .int .i64 0, .int .i64 0, .int .i64 0, .int .i64 0, .int .i64 0, .int .i64 0, .int .i64 0, .int .i64 0, .int .i64 0, .int .i64 0, .int .i64 0] 37) = w0 at R0 G0 hl1 ⊢
  refine (KB.out _).mono ?_
  rintro e w9 ⟨rfl, gx⟩
  have B9 := old0 gx R0 (blk_lt R0) (by simp)
  have r0 := blk_cell B9 0
  have r1 := blk_cell B9 1
  have r2 := blk_cell B9 2
  have r3 := blk_cell B9 3
  have r4 := blk_cell B9 4
  have r5 := blk_cell B9 5
  have r6 := blk_cell B9 6
  have r7 := blk_cell B9 7
  have r8 := blk_cell B9 8
  have r9 := blk_cell B9 9
  have r10 := blk_cell B9 10
  have r11 := blk_cell B9 11
  have r12 := blk_cell B9 12
  have r13 := blk_cell B9 13
  have r14 := blk_cell B9 14
  have rf0 := blk_free B9 0
  have rf1 := blk_free B9 1
  have rf2 := blk_free B9 2
  have rf3 := blk_free B9 3
  have rf4 := blk_free B9 4
  have rf5 := blk_free B9 5
  have rf6 := blk_free B9 6
  have rf7 := blk_free B9 7
  have rf8 := blk_free B9 8
  have rf9 := blk_free B9 9
  have rf10 := blk_free B9 10
  have rf11 := blk_free B9 11
  have rf12 := blk_free B9 12
  have rf13 := blk_free B9 13
  have rf14 := blk_free B9 14
  simp only [List.getElem?_toArray, List.getElem?_cons_succ, List.getElem?_cons_zero] at r0 r1 r2 r3 r4 r5 r6 r7 r8 r9 r10 r11 r12 r13 r14
  have hlr := blk_lt B9
  have G9 := Lib.hid (gb_trans G0 gx)
  clear gx B9 KB R0 G0
  go_wp2
  refine bodyPost_ret (v := .agg (badA 3 (fr : Nat))) (by simp only [results, Tryd.results11, badA]; go_simp) rfl ⟨rfl, ?_⟩
  exact gb_own (gb_own (gb_own (gb_own (gb_own (gb_own (gb_own (gb_own (gb_own (gb_own (gb_own (gb_own (gb_own (gb_own (gb_own (G9.out) (Nat.le_refl _) (gb_set _ _ _ _)) (Nat.le_refl _) (gb_set _ _ _ _)) (Nat.le_refl _) (gb_set _ _ _ _)) (Nat.le_refl _) (gb_set _ _ _ _)) (Nat.le_refl _) (gb_set _ _ _ _)) (Nat.le_refl _) (gb_set _ _ _ _)) (Nat.le_refl _) (gb_set _ _ _ _)) (Nat.le_refl _) (gb_set _ _ _ _)) (Nat.le_refl _) (gb_set _ _ _ _)) (Nat.le_refl _) (gb_set _ _ _ _)) (Nat.le_refl _) (gb_set _ _ _ _)) (Nat.le_refl _) (gb_set _ _ _ _)) (Nat.le_refl _) (gb_set _ _ _ _)) (Nat.le_refl _) (gb_set _ _ _ _)) (Nat.le_refl _) (gb_set _ _ _ _)

set_option maxRecDepth 100000 in
set_option maxHeartbeats 8000000 in
theorem rread_is64 (s : ByteArray) (fr to : Nat) (W : World) (hts : to ≤ s.size) (hsm : s.size ≤ 9223372036854775807) (hft : fr ≤ to) (h4 : fr + 4 ≤ to) (hn : w4 s fr = 64):
    Calls Tryd.prog 11 #[.string s, .int .i64 (fr : Nat), .int .i64 (to : Nat)] W fun e w' => e = .returned (.agg (badA 3 (fr : Nat))) ∧ W.grownBy w' none := by
  obtain ⟨d, hd⟩ : ∃ d : Int, (to : Int) - fr = d := ⟨_, rfl⟩
  have wd : IntKind.i64.wrap ((to : Int) - fr) = d := by rw [IntWalk.i64_in _ (by omega)]; exact hd
  have K4 := fun u => le4_is s fr (by omega) u
  rw [hn] at K4
  have K4 := Lib.hid (show ∀ u, Calls Tryd.prog 29 #[.string (s.extract fr (fr + 4))] u fun e w' => e = .returned (.int .i64 64) ∧ u = w' from K4)
  have sN : ∀ w, (Instr.slice 9 (.string s) (some (.int .i64 (fr : Nat))) (some (.int .i64 ((fr + 4 : Nat) : Int))) none).run Tryd.prog w = .ok (.string (s.extract fr (fr + 4))) w := fun w => cut_at s fr 4 (by omega) w
  obtain ⟨q4, hq4⟩ : ∃ q : Int, ((fr + 4 : Nat) : Int) = q := ⟨_, rfl⟩
  have w4w : IntKind.i64.wrap ((fr : Int) + 4) = q4 := by rw [IntWalk.i64_in _ (by omega)]; omega
  rw [hq4] at sN
  have d4 : ¬ d < 4 := by omega
  clear hts hsm hft hd h4 hn hq4
  have KB := Lib.hid (fun u => rbad_calls 3 (fr : Nat) u)
  unfold badA at KB
  go_enter Tryd.func11, Tryd.ntmps11
  go_wp2_with fail
  refine (K4.out _).mono ?_
  rintro e w' ⟨rfl, rfl⟩
  go_wp2_with fail
  have hl1 : (W.alloc (.cells #[.int .i64 0, .int .i64 0, .int .i64 0, .bool false, .int .i64 0, .int .i64 0, .int .i64 0, .int .i64 0, .int .i64 0, .int .i64 0, .int .i64 0, .int .i64 0, .int .i64 0, .int .i64 0, .int .i64 0] 37)).heap.size = W.heap.size + 1 := size_alloc _ _
  have R0 := blk_at (w := W) (o := .cells #[.int .i64 0, .int .i64 0, .int .i64 0, .bool false, .int .i64 0, .int .i64 0, .int .i64 0, .int .i64 0, .int .i64 0, .int .i64 0, .int .i64 0, .int .i64 0, .int .i64 0, .int .i64 0, .int .i64 0] 37)
  have G0 := World.grownBy_alloc W (.cells #[.int .i64 0, .int .i64 0, .int .i64 0, .bool false, .int .i64 0, .int .i64 0, .int .i64 0, .int .i64 0, .int .i64 0, .int .i64 0, .int .i64 0, .int .i64 0, .int .i64 0, .int .i64 0, .int .i64 0] 37) none
  generalize W.alloc (.cells #[.int .i64 0, .int .i64 0, .int .i64 0, .bool false, .int .i64 0, .int .i64 0, .int .i64 0, .int .i64 0, .int .i64 0, .int .i64 0, .int .i64 0, .int .i64 0, .int .i64 0, .int .i64 0, .int .i64 0] 37) = w0 at R0 G0 hl1 ⊢
  refine (KB.out _).mono ?_
  rintro e w9 ⟨rfl, gx⟩
  have B9 := old0 gx R0 (blk_lt R0) (by simp)
  have r0 := blk_cell B9 0
  have r1 := blk_cell B9 1
  have r2 := blk_cell B9 2
  have r3 := blk_cell B9 3
  have r4 := blk_cell B9 4
  have r5 := blk_cell B9 5
  have r6 := blk_cell B9 6
  have r7 := blk_cell B9 7
  have r8 := blk_cell B9 8
  have r9 := blk_cell B9 9
  have r10 := blk_cell B9 10
  have r11 := blk_cell B9 11
  have r12 := blk_cell B9 12
  have r13 := blk_cell B9 13
  have r14 := blk_cell B9 14
  have rf0 := blk_free B9 0
  have rf1 := blk_free B9 1
  have rf2 := blk_free B9 2
  have rf3 := blk_free B9 3
  have rf4 := blk_free B9 4
  have rf5 := blk_free B9 5
  have rf6 := blk_free B9 6
  have rf7 := blk_free B9 7
  have rf8 := blk_free B9 8
  have rf9 := blk_free B9 9
  have rf10 := blk_free B9 10
  have rf11 := blk_free B9 11
  have rf12 := blk_free B9 12
  have rf13 := blk_free B9 13
  have rf14 := blk_free B9 14
  simp only [List.getElem?_toArray, List.getElem?_cons_succ, List.getElem?_cons_zero] at r0 r1 r2 r3 r4 r5 r6 r7 r8 r9 r10 r11 r12 r13 r14
  have hlr := blk_lt B9
  have G9 := Lib.hid (gb_trans G0 gx)
  clear gx B9 KB R0 G0
  go_wp2
  refine bodyPost_ret (v := .agg (badA 3 (fr : Nat))) (by simp only [results, Tryd.results11, badA]; go_simp) rfl ⟨rfl, ?_⟩
  exact gb_own (gb_own (gb_own (gb_own (gb_own (gb_own (gb_own (gb_own (gb_own (gb_own (gb_own (gb_own (gb_own (gb_own (gb_own (G9.out) (Nat.le_refl _) (gb_set _ _ _ _)) (Nat.le_refl _) (gb_set _ _ _ _)) (Nat.le_refl _) (gb_set _ _ _ _)) (Nat.le_refl _) (gb_set _ _ _ _)) (Nat.le_refl _) (gb_set _ _ _ _)) (Nat.le_refl _) (gb_set _ _ _ _)) (Nat.le_refl _) (gb_set _ _ _ _)) (Nat.le_refl _) (gb_set _ _ _ _)) (Nat.le_refl _) (gb_set _ _ _ _)) (Nat.le_refl _) (gb_set _ _ _ _)) (Nat.le_refl _) (gb_set _ _ _ _)) (Nat.le_refl _) (gb_set _ _ _ _)) (Nat.le_refl _) (gb_set _ _ _ _)) (Nat.le_refl _) (gb_set _ _ _ _)) (Nat.le_refl _) (gb_set _ _ _ _)

end Go.Proofs.YtikjfmpdfeaooaaDoor.Dh

/- The document's Read of an unknown size (written by wip/gen/dir.py). -/
namespace Go.Proofs.YtikjfmpdfeaooaaDoor.Dh
open Go.ChangeShapes Go.WideShapes Go.ChangeAt Go.RowKit
open Go.Proofs.YtikjfmpdfeaooaaDoor.Le Go.Proofs.YtikjfmpdfeaooaaDoor.Sr Go.Proofs.YtikjfmpdfeaooaaDoor.Ma
set_option linter.unusedVariables false

set_option maxRecDepth 100000 in
set_option maxHeartbeats 8000000 in
theorem rread_unknown (s : ByteArray) (fr to : Nat) (W : World) (hts : to ≤ s.size) (hsm : s.size ≤ 9223372036854775807) (hft : fr ≤ to) (h4 : fr + 4 ≤ to) (n : Nat) (hn : w4 s fr = n) (h16 : n ≠ 16) (h64 : n ≠ 64) (h12 : n ≠ 12) (h40 : n ≠ 40) (h52 : n ≠ 52) (h56 : n ≠ 56) (h108 : n ≠ 108) (h124 : n ≠ 124):
    Calls Tryd.prog 11 #[.string s, .int .i64 (fr : Nat), .int .i64 (to : Nat)] W fun e w' => e = .returned (.agg (badA 2 (fr : Nat))) ∧ W.grownBy w' none := by
  obtain ⟨d, hd⟩ : ∃ d : Int, (to : Int) - fr = d := ⟨_, rfl⟩
  have wd : IntKind.i64.wrap ((to : Int) - fr) = d := by rw [IntWalk.i64_in _ (by omega)]; exact hd
  have K4 := fun u => le4_is s fr (by omega) u
  rw [hn] at K4
  have K4 := Lib.hid (show ∀ u, Calls Tryd.prog 29 #[.string (s.extract fr (fr + 4))] u fun e w' => e = .returned (.int .i64 (n : Nat)) ∧ u = w' from K4)
  have sN : ∀ w, (Instr.slice 9 (.string s) (some (.int .i64 (fr : Nat))) (some (.int .i64 ((fr + 4 : Nat) : Int))) none).run Tryd.prog w = .ok (.string (s.extract fr (fr + 4))) w := fun w => cut_at s fr 4 (by omega) w
  obtain ⟨q4, hq4⟩ : ∃ q : Int, ((fr + 4 : Nat) : Int) = q := ⟨_, rfl⟩
  have w4w : IntKind.i64.wrap ((fr : Int) + 4) = q4 := by rw [IntWalk.i64_in _ (by omega)]; omega
  rw [hq4] at sN
  have d4 : ¬ d < 4 := by omega
  obtain ⟨N, hN⟩ : ∃ N : Int, (n : Int) = N := ⟨_, rfl⟩
  rw [hN] at K4
  have n16 : (N == 16) = false := by rw [beq_eq_false_iff_ne]; omega
  have m16 : (N != 16) = true := by rw [bne_iff_ne]; omega
  have n64 : (N == 64) = false := by rw [beq_eq_false_iff_ne]; omega
  have m64 : (N != 64) = true := by rw [bne_iff_ne]; omega
  have n12 : (N == 12) = false := by rw [beq_eq_false_iff_ne]; omega
  have m12 : (N != 12) = true := by rw [bne_iff_ne]; omega
  have n40 : (N == 40) = false := by rw [beq_eq_false_iff_ne]; omega
  have m40 : (N != 40) = true := by rw [bne_iff_ne]; omega
  have n52 : (N == 52) = false := by rw [beq_eq_false_iff_ne]; omega
  have m52 : (N != 52) = true := by rw [bne_iff_ne]; omega
  have n56 : (N == 56) = false := by rw [beq_eq_false_iff_ne]; omega
  have m56 : (N != 56) = true := by rw [bne_iff_ne]; omega
  have n108 : (N == 108) = false := by rw [beq_eq_false_iff_ne]; omega
  have m108 : (N != 108) = true := by rw [bne_iff_ne]; omega
  have n124 : (N == 124) = false := by rw [beq_eq_false_iff_ne]; omega
  have m124 : (N != 124) = true := by rw [bne_iff_ne]; omega
  clear hts hsm hft hd h4 hn hq4 hN h16 h64 h12 h40 h52 h56 h108 h124
  have KB := Lib.hid (fun u => rbad_calls 2 (fr : Nat) u)
  unfold badA at KB
  go_enter Tryd.func11, Tryd.ntmps11
  go_wp2_with fail
  refine (K4.out _).mono ?_
  rintro e w' ⟨rfl, rfl⟩
  go_wp2_with fail
  have hl1 : (W.alloc (.cells #[.int .i64 0, .int .i64 0, .int .i64 0, .bool false, .int .i64 0, .int .i64 0, .int .i64 0, .int .i64 0, .int .i64 0, .int .i64 0, .int .i64 0, .int .i64 0, .int .i64 0, .int .i64 0, .int .i64 0] 37)).heap.size = W.heap.size + 1 := size_alloc _ _
  have R0 := blk_at (w := W) (o := .cells #[.int .i64 0, .int .i64 0, .int .i64 0, .bool false, .int .i64 0, .int .i64 0, .int .i64 0, .int .i64 0, .int .i64 0, .int .i64 0, .int .i64 0, .int .i64 0, .int .i64 0, .int .i64 0, .int .i64 0] 37)
  have G0 := World.grownBy_alloc W (.cells #[.int .i64 0, .int .i64 0, .int .i64 0, .bool false, .int .i64 0, .int .i64 0, .int .i64 0, .int .i64 0, .int .i64 0, .int .i64 0, .int .i64 0, .int .i64 0, .int .i64 0, .int .i64 0, .int .i64 0] 37) none
  generalize W.alloc (.cells #[.int .i64 0, .int .i64 0, .int .i64 0, .bool false, .int .i64 0, .int .i64 0, .int .i64 0, .int .i64 0, .int .i64 0, .int .i64 0, .int .i64 0, .int .i64 0, .int .i64 0, .int .i64 0, .int .i64 0] 37) = w0 at R0 G0 hl1 ⊢
  refine (KB.out _).mono ?_
  rintro e w9 ⟨rfl, gx⟩
  have B9 := old0 gx R0 (blk_lt R0) (by simp)
  have r0 := blk_cell B9 0
  have r1 := blk_cell B9 1
  have r2 := blk_cell B9 2
  have r3 := blk_cell B9 3
  have r4 := blk_cell B9 4
  have r5 := blk_cell B9 5
  have r6 := blk_cell B9 6
  have r7 := blk_cell B9 7
  have r8 := blk_cell B9 8
  have r9 := blk_cell B9 9
  have r10 := blk_cell B9 10
  have r11 := blk_cell B9 11
  have r12 := blk_cell B9 12
  have r13 := blk_cell B9 13
  have r14 := blk_cell B9 14
  have rf0 := blk_free B9 0
  have rf1 := blk_free B9 1
  have rf2 := blk_free B9 2
  have rf3 := blk_free B9 3
  have rf4 := blk_free B9 4
  have rf5 := blk_free B9 5
  have rf6 := blk_free B9 6
  have rf7 := blk_free B9 7
  have rf8 := blk_free B9 8
  have rf9 := blk_free B9 9
  have rf10 := blk_free B9 10
  have rf11 := blk_free B9 11
  have rf12 := blk_free B9 12
  have rf13 := blk_free B9 13
  have rf14 := blk_free B9 14
  simp only [List.getElem?_toArray, List.getElem?_cons_succ, List.getElem?_cons_zero] at r0 r1 r2 r3 r4 r5 r6 r7 r8 r9 r10 r11 r12 r13 r14
  have hlr := blk_lt B9
  have G9 := Lib.hid (gb_trans G0 gx)
  clear gx B9 KB R0 G0
  go_wp2
  refine bodyPost_ret (v := .agg (badA 2 (fr : Nat))) (by simp only [results, Tryd.results11, badA]; go_simp) rfl ⟨rfl, ?_⟩
  exact gb_own (gb_own (gb_own (gb_own (gb_own (gb_own (gb_own (gb_own (gb_own (gb_own (gb_own (gb_own (gb_own (gb_own (gb_own (G9.out) (Nat.le_refl _) (gb_set _ _ _ _)) (Nat.le_refl _) (gb_set _ _ _ _)) (Nat.le_refl _) (gb_set _ _ _ _)) (Nat.le_refl _) (gb_set _ _ _ _)) (Nat.le_refl _) (gb_set _ _ _ _)) (Nat.le_refl _) (gb_set _ _ _ _)) (Nat.le_refl _) (gb_set _ _ _ _)) (Nat.le_refl _) (gb_set _ _ _ _)) (Nat.le_refl _) (gb_set _ _ _ _)) (Nat.le_refl _) (gb_set _ _ _ _)) (Nat.le_refl _) (gb_set _ _ _ _)) (Nat.le_refl _) (gb_set _ _ _ _)) (Nat.le_refl _) (gb_set _ _ _ _)) (Nat.le_refl _) (gb_set _ _ _ _)) (Nat.le_refl _) (gb_set _ _ _ _)

end Go.Proofs.YtikjfmpdfeaooaaDoor.Dh

/- The document's Read of a size beyond the end (written by wip/gen/dir.py). -/
namespace Go.Proofs.YtikjfmpdfeaooaaDoor.Dh
open Go.ChangeShapes Go.WideShapes Go.ChangeAt Go.RowKit
open Go.Proofs.YtikjfmpdfeaooaaDoor.Le Go.Proofs.YtikjfmpdfeaooaaDoor.Sr Go.Proofs.YtikjfmpdfeaooaaDoor.Ma
set_option linter.unusedVariables false

set_option maxRecDepth 100000 in
set_option maxHeartbeats 8000000 in
theorem rread_over12 (s : ByteArray) (fr to : Nat) (W : World) (hts : to ≤ s.size) (hsm : s.size ≤ 9223372036854775807) (hft : fr ≤ to) (h4 : fr + 4 ≤ to) (hn : w4 s fr = 12) (hlt : to < fr + 12):
    Calls Tryd.prog 11 #[.string s, .int .i64 (fr : Nat), .int .i64 (to : Nat)] W fun e w' => e = .returned (.agg (badA 1 (to : Nat))) ∧ W.grownBy w' none := by
  obtain ⟨d, hd⟩ : ∃ d : Int, (to : Int) - fr = d := ⟨_, rfl⟩
  have wd : IntKind.i64.wrap ((to : Int) - fr) = d := by rw [IntWalk.i64_in _ (by omega)]; exact hd
  have K4 := fun u => le4_is s fr (by omega) u
  rw [hn] at K4
  have K4 := Lib.hid (show ∀ u, Calls Tryd.prog 29 #[.string (s.extract fr (fr + 4))] u fun e w' => e = .returned (.int .i64 12) ∧ u = w' from K4)
  have sN : ∀ w, (Instr.slice 9 (.string s) (some (.int .i64 (fr : Nat))) (some (.int .i64 ((fr + 4 : Nat) : Int))) none).run Tryd.prog w = .ok (.string (s.extract fr (fr + 4))) w := fun w => cut_at s fr 4 (by omega) w
  obtain ⟨q4, hq4⟩ : ∃ q : Int, ((fr + 4 : Nat) : Int) = q := ⟨_, rfl⟩
  have w4w : IntKind.i64.wrap ((fr : Int) + 4) = q4 := by rw [IntWalk.i64_in _ (by omega)]; omega
  rw [hq4] at sN
  have d4 : ¬ d < 4 := by omega
  have dn : d < 12 := by omega
  clear hts hsm hft hd h4 hn hq4 hlt
  have KB := Lib.hid (fun u => rbad_calls 1 (to : Nat) u)
  unfold badA at KB
  go_enter Tryd.func11, Tryd.ntmps11
  go_wp2_with fail
  refine (K4.out _).mono ?_
  rintro e w' ⟨rfl, rfl⟩
  go_wp2_with fail
  have hl1 : (W.alloc (.cells #[.int .i64 0, .int .i64 0, .int .i64 0, .bool false, .int .i64 0, .int .i64 0, .int .i64 0, .int .i64 0, .int .i64 0, .int .i64 0, .int .i64 0, .int .i64 0, .int .i64 0, .int .i64 0, .int .i64 0] 37)).heap.size = W.heap.size + 1 := size_alloc _ _
  have R0 := blk_at (w := W) (o := .cells #[.int .i64 0, .int .i64 0, .int .i64 0, .bool false, .int .i64 0, .int .i64 0, .int .i64 0, .int .i64 0, .int .i64 0, .int .i64 0, .int .i64 0, .int .i64 0, .int .i64 0, .int .i64 0, .int .i64 0] 37)
  have G0 := World.grownBy_alloc W (.cells #[.int .i64 0, .int .i64 0, .int .i64 0, .bool false, .int .i64 0, .int .i64 0, .int .i64 0, .int .i64 0, .int .i64 0, .int .i64 0, .int .i64 0, .int .i64 0, .int .i64 0, .int .i64 0, .int .i64 0] 37) none
  generalize W.alloc (.cells #[.int .i64 0, .int .i64 0, .int .i64 0, .bool false, .int .i64 0, .int .i64 0, .int .i64 0, .int .i64 0, .int .i64 0, .int .i64 0, .int .i64 0, .int .i64 0, .int .i64 0, .int .i64 0, .int .i64 0] 37) = w0 at R0 G0 hl1 ⊢
  refine (KB.out _).mono ?_
  rintro e w9 ⟨rfl, gx⟩
  have B9 := old0 gx R0 (blk_lt R0) (by simp)
  have r0 := blk_cell B9 0
  have r1 := blk_cell B9 1
  have r2 := blk_cell B9 2
  have r3 := blk_cell B9 3
  have r4 := blk_cell B9 4
  have r5 := blk_cell B9 5
  have r6 := blk_cell B9 6
  have r7 := blk_cell B9 7
  have r8 := blk_cell B9 8
  have r9 := blk_cell B9 9
  have r10 := blk_cell B9 10
  have r11 := blk_cell B9 11
  have r12 := blk_cell B9 12
  have r13 := blk_cell B9 13
  have r14 := blk_cell B9 14
  have rf0 := blk_free B9 0
  have rf1 := blk_free B9 1
  have rf2 := blk_free B9 2
  have rf3 := blk_free B9 3
  have rf4 := blk_free B9 4
  have rf5 := blk_free B9 5
  have rf6 := blk_free B9 6
  have rf7 := blk_free B9 7
  have rf8 := blk_free B9 8
  have rf9 := blk_free B9 9
  have rf10 := blk_free B9 10
  have rf11 := blk_free B9 11
  have rf12 := blk_free B9 12
  have rf13 := blk_free B9 13
  have rf14 := blk_free B9 14
  simp only [List.getElem?_toArray, List.getElem?_cons_succ, List.getElem?_cons_zero] at r0 r1 r2 r3 r4 r5 r6 r7 r8 r9 r10 r11 r12 r13 r14
  have hlr := blk_lt B9
  have G9 := Lib.hid (gb_trans G0 gx)
  clear gx B9 KB R0 G0
  go_wp2
  refine bodyPost_ret (v := .agg (badA 1 (to : Nat))) (by simp only [results, Tryd.results11, badA]; go_simp) rfl ⟨rfl, ?_⟩
  exact gb_own (gb_own (gb_own (gb_own (gb_own (gb_own (gb_own (gb_own (gb_own (gb_own (gb_own (gb_own (gb_own (gb_own (gb_own (G9.out) (Nat.le_refl _) (gb_set _ _ _ _)) (Nat.le_refl _) (gb_set _ _ _ _)) (Nat.le_refl _) (gb_set _ _ _ _)) (Nat.le_refl _) (gb_set _ _ _ _)) (Nat.le_refl _) (gb_set _ _ _ _)) (Nat.le_refl _) (gb_set _ _ _ _)) (Nat.le_refl _) (gb_set _ _ _ _)) (Nat.le_refl _) (gb_set _ _ _ _)) (Nat.le_refl _) (gb_set _ _ _ _)) (Nat.le_refl _) (gb_set _ _ _ _)) (Nat.le_refl _) (gb_set _ _ _ _)) (Nat.le_refl _) (gb_set _ _ _ _)) (Nat.le_refl _) (gb_set _ _ _ _)) (Nat.le_refl _) (gb_set _ _ _ _)) (Nat.le_refl _) (gb_set _ _ _ _)

set_option maxRecDepth 100000 in
set_option maxHeartbeats 8000000 in
theorem rread_over40 (s : ByteArray) (fr to : Nat) (W : World) (hts : to ≤ s.size) (hsm : s.size ≤ 9223372036854775807) (hft : fr ≤ to) (h4 : fr + 4 ≤ to) (hn : w4 s fr = 40) (hlt : to < fr + 40):
    Calls Tryd.prog 11 #[.string s, .int .i64 (fr : Nat), .int .i64 (to : Nat)] W fun e w' => e = .returned (.agg (badA 1 (to : Nat))) ∧ W.grownBy w' none := by
  obtain ⟨d, hd⟩ : ∃ d : Int, (to : Int) - fr = d := ⟨_, rfl⟩
  have wd : IntKind.i64.wrap ((to : Int) - fr) = d := by rw [IntWalk.i64_in _ (by omega)]; exact hd
  have K4 := fun u => le4_is s fr (by omega) u
  rw [hn] at K4
  have K4 := Lib.hid (show ∀ u, Calls Tryd.prog 29 #[.string (s.extract fr (fr + 4))] u fun e w' => e = .returned (.int .i64 40) ∧ u = w' from K4)
  have sN : ∀ w, (Instr.slice 9 (.string s) (some (.int .i64 (fr : Nat))) (some (.int .i64 ((fr + 4 : Nat) : Int))) none).run Tryd.prog w = .ok (.string (s.extract fr (fr + 4))) w := fun w => cut_at s fr 4 (by omega) w
  obtain ⟨q4, hq4⟩ : ∃ q : Int, ((fr + 4 : Nat) : Int) = q := ⟨_, rfl⟩
  have w4w : IntKind.i64.wrap ((fr : Int) + 4) = q4 := by rw [IntWalk.i64_in _ (by omega)]; omega
  rw [hq4] at sN
  have d4 : ¬ d < 4 := by omega
  have dn : d < 40 := by omega
  clear hts hsm hft hd h4 hn hq4 hlt
  have KB := Lib.hid (fun u => rbad_calls 1 (to : Nat) u)
  unfold badA at KB
  go_enter Tryd.func11, Tryd.ntmps11
  go_wp2_with fail
  refine (K4.out _).mono ?_
  rintro e w' ⟨rfl, rfl⟩
  go_wp2_with fail
  have hl1 : (W.alloc (.cells #[.int .i64 0, .int .i64 0, .int .i64 0, .bool false, .int .i64 0, .int .i64 0, .int .i64 0, .int .i64 0, .int .i64 0, .int .i64 0, .int .i64 0, .int .i64 0, .int .i64 0, .int .i64 0, .int .i64 0] 37)).heap.size = W.heap.size + 1 := size_alloc _ _
  have R0 := blk_at (w := W) (o := .cells #[.int .i64 0, .int .i64 0, .int .i64 0, .bool false, .int .i64 0, .int .i64 0, .int .i64 0, .int .i64 0, .int .i64 0, .int .i64 0, .int .i64 0, .int .i64 0, .int .i64 0, .int .i64 0, .int .i64 0] 37)
  have G0 := World.grownBy_alloc W (.cells #[.int .i64 0, .int .i64 0, .int .i64 0, .bool false, .int .i64 0, .int .i64 0, .int .i64 0, .int .i64 0, .int .i64 0, .int .i64 0, .int .i64 0, .int .i64 0, .int .i64 0, .int .i64 0, .int .i64 0] 37) none
  generalize W.alloc (.cells #[.int .i64 0, .int .i64 0, .int .i64 0, .bool false, .int .i64 0, .int .i64 0, .int .i64 0, .int .i64 0, .int .i64 0, .int .i64 0, .int .i64 0, .int .i64 0, .int .i64 0, .int .i64 0, .int .i64 0] 37) = w0 at R0 G0 hl1 ⊢
  refine (KB.out _).mono ?_
  rintro e w9 ⟨rfl, gx⟩
  have B9 := old0 gx R0 (blk_lt R0) (by simp)
  have r0 := blk_cell B9 0
  have r1 := blk_cell B9 1
  have r2 := blk_cell B9 2
  have r3 := blk_cell B9 3
  have r4 := blk_cell B9 4
  have r5 := blk_cell B9 5
  have r6 := blk_cell B9 6
  have r7 := blk_cell B9 7
  have r8 := blk_cell B9 8
  have r9 := blk_cell B9 9
  have r10 := blk_cell B9 10
  have r11 := blk_cell B9 11
  have r12 := blk_cell B9 12
  have r13 := blk_cell B9 13
  have r14 := blk_cell B9 14
  have rf0 := blk_free B9 0
  have rf1 := blk_free B9 1
  have rf2 := blk_free B9 2
  have rf3 := blk_free B9 3
  have rf4 := blk_free B9 4
  have rf5 := blk_free B9 5
  have rf6 := blk_free B9 6
  have rf7 := blk_free B9 7
  have rf8 := blk_free B9 8
  have rf9 := blk_free B9 9
  have rf10 := blk_free B9 10
  have rf11 := blk_free B9 11
  have rf12 := blk_free B9 12
  have rf13 := blk_free B9 13
  have rf14 := blk_free B9 14
  simp only [List.getElem?_toArray, List.getElem?_cons_succ, List.getElem?_cons_zero] at r0 r1 r2 r3 r4 r5 r6 r7 r8 r9 r10 r11 r12 r13 r14
  have hlr := blk_lt B9
  have G9 := Lib.hid (gb_trans G0 gx)
  clear gx B9 KB R0 G0
  go_wp2
  refine bodyPost_ret (v := .agg (badA 1 (to : Nat))) (by simp only [results, Tryd.results11, badA]; go_simp) rfl ⟨rfl, ?_⟩
  exact gb_own (gb_own (gb_own (gb_own (gb_own (gb_own (gb_own (gb_own (gb_own (gb_own (gb_own (gb_own (gb_own (gb_own (gb_own (G9.out) (Nat.le_refl _) (gb_set _ _ _ _)) (Nat.le_refl _) (gb_set _ _ _ _)) (Nat.le_refl _) (gb_set _ _ _ _)) (Nat.le_refl _) (gb_set _ _ _ _)) (Nat.le_refl _) (gb_set _ _ _ _)) (Nat.le_refl _) (gb_set _ _ _ _)) (Nat.le_refl _) (gb_set _ _ _ _)) (Nat.le_refl _) (gb_set _ _ _ _)) (Nat.le_refl _) (gb_set _ _ _ _)) (Nat.le_refl _) (gb_set _ _ _ _)) (Nat.le_refl _) (gb_set _ _ _ _)) (Nat.le_refl _) (gb_set _ _ _ _)) (Nat.le_refl _) (gb_set _ _ _ _)) (Nat.le_refl _) (gb_set _ _ _ _)) (Nat.le_refl _) (gb_set _ _ _ _)

set_option maxRecDepth 100000 in
set_option maxHeartbeats 8000000 in
theorem rread_over52 (s : ByteArray) (fr to : Nat) (W : World) (hts : to ≤ s.size) (hsm : s.size ≤ 9223372036854775807) (hft : fr ≤ to) (h4 : fr + 4 ≤ to) (hn : w4 s fr = 52) (hlt : to < fr + 52):
    Calls Tryd.prog 11 #[.string s, .int .i64 (fr : Nat), .int .i64 (to : Nat)] W fun e w' => e = .returned (.agg (badA 1 (to : Nat))) ∧ W.grownBy w' none := by
  obtain ⟨d, hd⟩ : ∃ d : Int, (to : Int) - fr = d := ⟨_, rfl⟩
  have wd : IntKind.i64.wrap ((to : Int) - fr) = d := by rw [IntWalk.i64_in _ (by omega)]; exact hd
  have K4 := fun u => le4_is s fr (by omega) u
  rw [hn] at K4
  have K4 := Lib.hid (show ∀ u, Calls Tryd.prog 29 #[.string (s.extract fr (fr + 4))] u fun e w' => e = .returned (.int .i64 52) ∧ u = w' from K4)
  have sN : ∀ w, (Instr.slice 9 (.string s) (some (.int .i64 (fr : Nat))) (some (.int .i64 ((fr + 4 : Nat) : Int))) none).run Tryd.prog w = .ok (.string (s.extract fr (fr + 4))) w := fun w => cut_at s fr 4 (by omega) w
  obtain ⟨q4, hq4⟩ : ∃ q : Int, ((fr + 4 : Nat) : Int) = q := ⟨_, rfl⟩
  have w4w : IntKind.i64.wrap ((fr : Int) + 4) = q4 := by rw [IntWalk.i64_in _ (by omega)]; omega
  rw [hq4] at sN
  have d4 : ¬ d < 4 := by omega
  have dn : d < 52 := by omega
  clear hts hsm hft hd h4 hn hq4 hlt
  have KB := Lib.hid (fun u => rbad_calls 1 (to : Nat) u)
  unfold badA at KB
  go_enter Tryd.func11, Tryd.ntmps11
  go_wp2_with fail
  refine (K4.out _).mono ?_
  rintro e w' ⟨rfl, rfl⟩
  go_wp2_with fail
  have hl1 : (W.alloc (.cells #[.int .i64 0, .int .i64 0, .int .i64 0, .bool false, .int .i64 0, .int .i64 0, .int .i64 0, .int .i64 0, .int .i64 0, .int .i64 0, .int .i64 0, .int .i64 0, .int .i64 0, .int .i64 0, .int .i64 0] 37)).heap.size = W.heap.size + 1 := size_alloc _ _
  have R0 := blk_at (w := W) (o := .cells #[.int .i64 0, .int .i64 0, .int .i64 0, .bool false, .int .i64 0, .int .i64 0, .int .i64 0, .int .i64 0, .int .i64 0, .int .i64 0, .int .i64 0, .int .i64 0, .int .i64 0, .int .i64 0, .int .i64 0] 37)
  have G0 := World.grownBy_alloc W (.cells #[.int .i64 0, .int .i64 0, .int .i64 0, .bool false, .int .i64 0, .int .i64 0, .int .i64 0, .int .i64 0, .int .i64 0, .int .i64 0, .int .i64 0, .int .i64 0, .int .i64 0, .int .i64 0, .int .i64 0] 37) none
  generalize W.alloc (.cells #[.int .i64 0, .int .i64 0, .int .i64 0, .bool false, .int .i64 0, .int .i64 0, .int .i64 0, .int .i64 0, .int .i64 0, .int .i64 0, .int .i64 0, .int .i64 0, .int .i64 0, .int .i64 0, .int .i64 0] 37) = w0 at R0 G0 hl1 ⊢
  refine (KB.out _).mono ?_
  rintro e w9 ⟨rfl, gx⟩
  have B9 := old0 gx R0 (blk_lt R0) (by simp)
  have r0 := blk_cell B9 0
  have r1 := blk_cell B9 1
  have r2 := blk_cell B9 2
  have r3 := blk_cell B9 3
  have r4 := blk_cell B9 4
  have r5 := blk_cell B9 5
  have r6 := blk_cell B9 6
  have r7 := blk_cell B9 7
  have r8 := blk_cell B9 8
  have r9 := blk_cell B9 9
  have r10 := blk_cell B9 10
  have r11 := blk_cell B9 11
  have r12 := blk_cell B9 12
  have r13 := blk_cell B9 13
  have r14 := blk_cell B9 14
  have rf0 := blk_free B9 0
  have rf1 := blk_free B9 1
  have rf2 := blk_free B9 2
  have rf3 := blk_free B9 3
  have rf4 := blk_free B9 4
  have rf5 := blk_free B9 5
  have rf6 := blk_free B9 6
  have rf7 := blk_free B9 7
  have rf8 := blk_free B9 8
  have rf9 := blk_free B9 9
  have rf10 := blk_free B9 10
  have rf11 := blk_free B9 11
  have rf12 := blk_free B9 12
  have rf13 := blk_free B9 13
  have rf14 := blk_free B9 14
  simp only [List.getElem?_toArray, List.getElem?_cons_succ, List.getElem?_cons_zero] at r0 r1 r2 r3 r4 r5 r6 r7 r8 r9 r10 r11 r12 r13 r14
  have hlr := blk_lt B9
  have G9 := Lib.hid (gb_trans G0 gx)
  clear gx B9 KB R0 G0
  go_wp2
  refine bodyPost_ret (v := .agg (badA 1 (to : Nat))) (by simp only [results, Tryd.results11, badA]; go_simp) rfl ⟨rfl, ?_⟩
  exact gb_own (gb_own (gb_own (gb_own (gb_own (gb_own (gb_own (gb_own (gb_own (gb_own (gb_own (gb_own (gb_own (gb_own (gb_own (G9.out) (Nat.le_refl _) (gb_set _ _ _ _)) (Nat.le_refl _) (gb_set _ _ _ _)) (Nat.le_refl _) (gb_set _ _ _ _)) (Nat.le_refl _) (gb_set _ _ _ _)) (Nat.le_refl _) (gb_set _ _ _ _)) (Nat.le_refl _) (gb_set _ _ _ _)) (Nat.le_refl _) (gb_set _ _ _ _)) (Nat.le_refl _) (gb_set _ _ _ _)) (Nat.le_refl _) (gb_set _ _ _ _)) (Nat.le_refl _) (gb_set _ _ _ _)) (Nat.le_refl _) (gb_set _ _ _ _)) (Nat.le_refl _) (gb_set _ _ _ _)) (Nat.le_refl _) (gb_set _ _ _ _)) (Nat.le_refl _) (gb_set _ _ _ _)) (Nat.le_refl _) (gb_set _ _ _ _)

set_option maxRecDepth 100000 in
set_option maxHeartbeats 8000000 in
theorem rread_over56 (s : ByteArray) (fr to : Nat) (W : World) (hts : to ≤ s.size) (hsm : s.size ≤ 9223372036854775807) (hft : fr ≤ to) (h4 : fr + 4 ≤ to) (hn : w4 s fr = 56) (hlt : to < fr + 56):
    Calls Tryd.prog 11 #[.string s, .int .i64 (fr : Nat), .int .i64 (to : Nat)] W fun e w' => e = .returned (.agg (badA 1 (to : Nat))) ∧ W.grownBy w' none := by
  obtain ⟨d, hd⟩ : ∃ d : Int, (to : Int) - fr = d := ⟨_, rfl⟩
  have wd : IntKind.i64.wrap ((to : Int) - fr) = d := by rw [IntWalk.i64_in _ (by omega)]; exact hd
  have K4 := fun u => le4_is s fr (by omega) u
  rw [hn] at K4
  have K4 := Lib.hid (show ∀ u, Calls Tryd.prog 29 #[.string (s.extract fr (fr + 4))] u fun e w' => e = .returned (.int .i64 56) ∧ u = w' from K4)
  have sN : ∀ w, (Instr.slice 9 (.string s) (some (.int .i64 (fr : Nat))) (some (.int .i64 ((fr + 4 : Nat) : Int))) none).run Tryd.prog w = .ok (.string (s.extract fr (fr + 4))) w := fun w => cut_at s fr 4 (by omega) w
  obtain ⟨q4, hq4⟩ : ∃ q : Int, ((fr + 4 : Nat) : Int) = q := ⟨_, rfl⟩
  have w4w : IntKind.i64.wrap ((fr : Int) + 4) = q4 := by rw [IntWalk.i64_in _ (by omega)]; omega
  rw [hq4] at sN
  have d4 : ¬ d < 4 := by omega
  have dn : d < 56 := by omega
  clear hts hsm hft hd h4 hn hq4 hlt
  have KB := Lib.hid (fun u => rbad_calls 1 (to : Nat) u)
  unfold badA at KB
  go_enter Tryd.func11, Tryd.ntmps11
  go_wp2_with fail
  refine (K4.out _).mono ?_
  rintro e w' ⟨rfl, rfl⟩
  go_wp2_with fail
  have hl1 : (W.alloc (.cells #[.int .i64 0, .int .i64 0, .int .i64 0, .bool false, .int .i64 0, .int .i64 0, .int .i64 0, .int .i64 0, .int .i64 0, .int .i64 0, .int .i64 0, .int .i64 0, .int .i64 0, .int .i64 0, .int .i64 0] 37)).heap.size = W.heap.size + 1 := size_alloc _ _
  have R0 := blk_at (w := W) (o := .cells #[.int .i64 0, .int .i64 0, .int .i64 0, .bool false, .int .i64 0, .int .i64 0, .int .i64 0, .int .i64 0, .int .i64 0, .int .i64 0, .int .i64 0, .int .i64 0, .int .i64 0, .int .i64 0, .int .i64 0] 37)
  have G0 := World.grownBy_alloc W (.cells #[.int .i64 0, .int .i64 0, .int .i64 0, .bool false, .int .i64 0, .int .i64 0, .int .i64 0, .int .i64 0, .int .i64 0, .int .i64 0, .int .i64 0, .int .i64 0, .int .i64 0, .int .i64 0, .int .i64 0] 37) none
  generalize W.alloc (.cells #[.int .i64 0, .int .i64 0, .int .i64 0, .bool false, .int .i64 0, .int .i64 0, .int .i64 0, .int .i64 0, .int .i64 0, .int .i64 0, .int .i64 0, .int .i64 0, .int .i64 0, .int .i64 0, .int .i64 0] 37) = w0 at R0 G0 hl1 ⊢
  refine (KB.out _).mono ?_
  rintro e w9 ⟨rfl, gx⟩
  have B9 := old0 gx R0 (blk_lt R0) (by simp)
  have r0 := blk_cell B9 0
  have r1 := blk_cell B9 1
  have r2 := blk_cell B9 2
  have r3 := blk_cell B9 3
  have r4 := blk_cell B9 4
  have r5 := blk_cell B9 5
  have r6 := blk_cell B9 6
  have r7 := blk_cell B9 7
  have r8 := blk_cell B9 8
  have r9 := blk_cell B9 9
  have r10 := blk_cell B9 10
  have r11 := blk_cell B9 11
  have r12 := blk_cell B9 12
  have r13 := blk_cell B9 13
  have r14 := blk_cell B9 14
  have rf0 := blk_free B9 0
  have rf1 := blk_free B9 1
  have rf2 := blk_free B9 2
  have rf3 := blk_free B9 3
  have rf4 := blk_free B9 4
  have rf5 := blk_free B9 5
  have rf6 := blk_free B9 6
  have rf7 := blk_free B9 7
  have rf8 := blk_free B9 8
  have rf9 := blk_free B9 9
  have rf10 := blk_free B9 10
  have rf11 := blk_free B9 11
  have rf12 := blk_free B9 12
  have rf13 := blk_free B9 13
  have rf14 := blk_free B9 14
  simp only [List.getElem?_toArray, List.getElem?_cons_succ, List.getElem?_cons_zero] at r0 r1 r2 r3 r4 r5 r6 r7 r8 r9 r10 r11 r12 r13 r14
  have hlr := blk_lt B9
  have G9 := Lib.hid (gb_trans G0 gx)
  clear gx B9 KB R0 G0
  go_wp2
  refine bodyPost_ret (v := .agg (badA 1 (to : Nat))) (by simp only [results, Tryd.results11, badA]; go_simp) rfl ⟨rfl, ?_⟩
  exact gb_own (gb_own (gb_own (gb_own (gb_own (gb_own (gb_own (gb_own (gb_own (gb_own (gb_own (gb_own (gb_own (gb_own (gb_own (G9.out) (Nat.le_refl _) (gb_set _ _ _ _)) (Nat.le_refl _) (gb_set _ _ _ _)) (Nat.le_refl _) (gb_set _ _ _ _)) (Nat.le_refl _) (gb_set _ _ _ _)) (Nat.le_refl _) (gb_set _ _ _ _)) (Nat.le_refl _) (gb_set _ _ _ _)) (Nat.le_refl _) (gb_set _ _ _ _)) (Nat.le_refl _) (gb_set _ _ _ _)) (Nat.le_refl _) (gb_set _ _ _ _)) (Nat.le_refl _) (gb_set _ _ _ _)) (Nat.le_refl _) (gb_set _ _ _ _)) (Nat.le_refl _) (gb_set _ _ _ _)) (Nat.le_refl _) (gb_set _ _ _ _)) (Nat.le_refl _) (gb_set _ _ _ _)) (Nat.le_refl _) (gb_set _ _ _ _)

set_option maxRecDepth 100000 in
set_option maxHeartbeats 8000000 in
theorem rread_over108 (s : ByteArray) (fr to : Nat) (W : World) (hts : to ≤ s.size) (hsm : s.size ≤ 9223372036854775807) (hft : fr ≤ to) (h4 : fr + 4 ≤ to) (hn : w4 s fr = 108) (hlt : to < fr + 108):
    Calls Tryd.prog 11 #[.string s, .int .i64 (fr : Nat), .int .i64 (to : Nat)] W fun e w' => e = .returned (.agg (badA 1 (to : Nat))) ∧ W.grownBy w' none := by
  obtain ⟨d, hd⟩ : ∃ d : Int, (to : Int) - fr = d := ⟨_, rfl⟩
  have wd : IntKind.i64.wrap ((to : Int) - fr) = d := by rw [IntWalk.i64_in _ (by omega)]; exact hd
  have K4 := fun u => le4_is s fr (by omega) u
  rw [hn] at K4
  have K4 := Lib.hid (show ∀ u, Calls Tryd.prog 29 #[.string (s.extract fr (fr + 4))] u fun e w' => e = .returned (.int .i64 108) ∧ u = w' from K4)
  have sN : ∀ w, (Instr.slice 9 (.string s) (some (.int .i64 (fr : Nat))) (some (.int .i64 ((fr + 4 : Nat) : Int))) none).run Tryd.prog w = .ok (.string (s.extract fr (fr + 4))) w := fun w => cut_at s fr 4 (by omega) w
  obtain ⟨q4, hq4⟩ : ∃ q : Int, ((fr + 4 : Nat) : Int) = q := ⟨_, rfl⟩
  have w4w : IntKind.i64.wrap ((fr : Int) + 4) = q4 := by rw [IntWalk.i64_in _ (by omega)]; omega
  rw [hq4] at sN
  have d4 : ¬ d < 4 := by omega
  have dn : d < 108 := by omega
  clear hts hsm hft hd h4 hn hq4 hlt
  have KB := Lib.hid (fun u => rbad_calls 1 (to : Nat) u)
  unfold badA at KB
  go_enter Tryd.func11, Tryd.ntmps11
  go_wp2_with fail
  refine (K4.out _).mono ?_
  rintro e w' ⟨rfl, rfl⟩
  go_wp2_with fail
  have hl1 : (W.alloc (.cells #[.int .i64 0, .int .i64 0, .int .i64 0, .bool false, .int .i64 0, .int .i64 0, .int .i64 0, .int .i64 0, .int .i64 0, .int .i64 0, .int .i64 0, .int .i64 0, .int .i64 0, .int .i64 0, .int .i64 0] 37)).heap.size = W.heap.size + 1 := size_alloc _ _
  have R0 := blk_at (w := W) (o := .cells #[.int .i64 0, .int .i64 0, .int .i64 0, .bool false, .int .i64 0, .int .i64 0, .int .i64 0, .int .i64 0, .int .i64 0, .int .i64 0, .int .i64 0, .int .i64 0, .int .i64 0, .int .i64 0, .int .i64 0] 37)
  have G0 := World.grownBy_alloc W (.cells #[.int .i64 0, .int .i64 0, .int .i64 0, .bool false, .int .i64 0, .int .i64 0, .int .i64 0, .int .i64 0, .int .i64 0, .int .i64 0, .int .i64 0, .int .i64 0, .int .i64 0, .int .i64 0, .int .i64 0] 37) none
  generalize W.alloc (.cells #[.int .i64 0, .int .i64 0, .int .i64 0, .bool false, .int .i64 0, .int .i64 0, .int .i64 0, .int .i64 0, .int .i64 0, .int .i64 0, .int .i64 0, .int .i64 0, .int .i64 0, .int .i64 0, .int .i64 0] 37) = w0 at R0 G0 hl1 ⊢
  refine (KB.out _).mono ?_
  rintro e w9 ⟨rfl, gx⟩
  have B9 := old0 gx R0 (blk_lt R0) (by simp)
  have r0 := blk_cell B9 0
  have r1 := blk_cell B9 1
  have r2 := blk_cell B9 2
  have r3 := blk_cell B9 3
  have r4 := blk_cell B9 4
  have r5 := blk_cell B9 5
  have r6 := blk_cell B9 6
  have r7 := blk_cell B9 7
  have r8 := blk_cell B9 8
  have r9 := blk_cell B9 9
  have r10 := blk_cell B9 10
  have r11 := blk_cell B9 11
  have r12 := blk_cell B9 12
  have r13 := blk_cell B9 13
  have r14 := blk_cell B9 14
  have rf0 := blk_free B9 0
  have rf1 := blk_free B9 1
  have rf2 := blk_free B9 2
  have rf3 := blk_free B9 3
  have rf4 := blk_free B9 4
  have rf5 := blk_free B9 5
  have rf6 := blk_free B9 6
  have rf7 := blk_free B9 7
  have rf8 := blk_free B9 8
  have rf9 := blk_free B9 9
  have rf10 := blk_free B9 10
  have rf11 := blk_free B9 11
  have rf12 := blk_free B9 12
  have rf13 := blk_free B9 13
  have rf14 := blk_free B9 14
  simp only [List.getElem?_toArray, List.getElem?_cons_succ, List.getElem?_cons_zero] at r0 r1 r2 r3 r4 r5 r6 r7 r8 r9 r10 r11 r12 r13 r14
  have hlr := blk_lt B9
  have G9 := Lib.hid (gb_trans G0 gx)
  clear gx B9 KB R0 G0
  go_wp2
  refine bodyPost_ret (v := .agg (badA 1 (to : Nat))) (by simp only [results, Tryd.results11, badA]; go_simp) rfl ⟨rfl, ?_⟩
  exact gb_own (gb_own (gb_own (gb_own (gb_own (gb_own (gb_own (gb_own (gb_own (gb_own (gb_own (gb_own (gb_own (gb_own (gb_own (G9.out) (Nat.le_refl _) (gb_set _ _ _ _)) (Nat.le_refl _) (gb_set _ _ _ _)) (Nat.le_refl _) (gb_set _ _ _ _)) (Nat.le_refl _) (gb_set _ _ _ _)) (Nat.le_refl _) (gb_set _ _ _ _)) (Nat.le_refl _) (gb_set _ _ _ _)) (Nat.le_refl _) (gb_set _ _ _ _)) (Nat.le_refl _) (gb_set _ _ _ _)) (Nat.le_refl _) (gb_set _ _ _ _)) (Nat.le_refl _) (gb_set _ _ _ _)) (Nat.le_refl _) (gb_set _ _ _ _)) (Nat.le_refl _) (gb_set _ _ _ _)) (Nat.le_refl _) (gb_set _ _ _ _)) (Nat.le_refl _) (gb_set _ _ _ _)) (Nat.le_refl _) (gb_set _ _ _ _)

set_option maxRecDepth 100000 in
set_option maxHeartbeats 8000000 in
theorem rread_over124 (s : ByteArray) (fr to : Nat) (W : World) (hts : to ≤ s.size) (hsm : s.size ≤ 9223372036854775807) (hft : fr ≤ to) (h4 : fr + 4 ≤ to) (hn : w4 s fr = 124) (hlt : to < fr + 124):
    Calls Tryd.prog 11 #[.string s, .int .i64 (fr : Nat), .int .i64 (to : Nat)] W fun e w' => e = .returned (.agg (badA 1 (to : Nat))) ∧ W.grownBy w' none := by
  obtain ⟨d, hd⟩ : ∃ d : Int, (to : Int) - fr = d := ⟨_, rfl⟩
  have wd : IntKind.i64.wrap ((to : Int) - fr) = d := by rw [IntWalk.i64_in _ (by omega)]; exact hd
  have K4 := fun u => le4_is s fr (by omega) u
  rw [hn] at K4
  have K4 := Lib.hid (show ∀ u, Calls Tryd.prog 29 #[.string (s.extract fr (fr + 4))] u fun e w' => e = .returned (.int .i64 124) ∧ u = w' from K4)
  have sN : ∀ w, (Instr.slice 9 (.string s) (some (.int .i64 (fr : Nat))) (some (.int .i64 ((fr + 4 : Nat) : Int))) none).run Tryd.prog w = .ok (.string (s.extract fr (fr + 4))) w := fun w => cut_at s fr 4 (by omega) w
  obtain ⟨q4, hq4⟩ : ∃ q : Int, ((fr + 4 : Nat) : Int) = q := ⟨_, rfl⟩
  have w4w : IntKind.i64.wrap ((fr : Int) + 4) = q4 := by rw [IntWalk.i64_in _ (by omega)]; omega
  rw [hq4] at sN
  have d4 : ¬ d < 4 := by omega
  have dn : d < 124 := by omega
  clear hts hsm hft hd h4 hn hq4 hlt
  have KB := Lib.hid (fun u => rbad_calls 1 (to : Nat) u)
  unfold badA at KB
  go_enter Tryd.func11, Tryd.ntmps11
  go_wp2_with fail
  refine (K4.out _).mono ?_
  rintro e w' ⟨rfl, rfl⟩
  go_wp2_with fail
  have hl1 : (W.alloc (.cells #[.int .i64 0, .int .i64 0, .int .i64 0, .bool false, .int .i64 0, .int .i64 0, .int .i64 0, .int .i64 0, .int .i64 0, .int .i64 0, .int .i64 0, .int .i64 0, .int .i64 0, .int .i64 0, .int .i64 0] 37)).heap.size = W.heap.size + 1 := size_alloc _ _
  have R0 := blk_at (w := W) (o := .cells #[.int .i64 0, .int .i64 0, .int .i64 0, .bool false, .int .i64 0, .int .i64 0, .int .i64 0, .int .i64 0, .int .i64 0, .int .i64 0, .int .i64 0, .int .i64 0, .int .i64 0, .int .i64 0, .int .i64 0] 37)
  have G0 := World.grownBy_alloc W (.cells #[.int .i64 0, .int .i64 0, .int .i64 0, .bool false, .int .i64 0, .int .i64 0, .int .i64 0, .int .i64 0, .int .i64 0, .int .i64 0, .int .i64 0, .int .i64 0, .int .i64 0, .int .i64 0, .int .i64 0] 37) none
  generalize W.alloc (.cells #[.int .i64 0, .int .i64 0, .int .i64 0, .bool false, .int .i64 0, .int .i64 0, .int .i64 0, .int .i64 0, .int .i64 0, .int .i64 0, .int .i64 0, .int .i64 0, .int .i64 0, .int .i64 0, .int .i64 0] 37) = w0 at R0 G0 hl1 ⊢
  refine (KB.out _).mono ?_
  rintro e w9 ⟨rfl, gx⟩
  have B9 := old0 gx R0 (blk_lt R0) (by simp)
  have r0 := blk_cell B9 0
  have r1 := blk_cell B9 1
  have r2 := blk_cell B9 2
  have r3 := blk_cell B9 3
  have r4 := blk_cell B9 4
  have r5 := blk_cell B9 5
  have r6 := blk_cell B9 6
  have r7 := blk_cell B9 7
  have r8 := blk_cell B9 8
  have r9 := blk_cell B9 9
  have r10 := blk_cell B9 10
  have r11 := blk_cell B9 11
  have r12 := blk_cell B9 12
  have r13 := blk_cell B9 13
  have r14 := blk_cell B9 14
  have rf0 := blk_free B9 0
  have rf1 := blk_free B9 1
  have rf2 := blk_free B9 2
  have rf3 := blk_free B9 3
  have rf4 := blk_free B9 4
  have rf5 := blk_free B9 5
  have rf6 := blk_free B9 6
  have rf7 := blk_free B9 7
  have rf8 := blk_free B9 8
  have rf9 := blk_free B9 9
  have rf10 := blk_free B9 10
  have rf11 := blk_free B9 11
  have rf12 := blk_free B9 12
  have rf13 := blk_free B9 13
  have rf14 := blk_free B9 14
  simp only [List.getElem?_toArray, List.getElem?_cons_succ, List.getElem?_cons_zero] at r0 r1 r2 r3 r4 r5 r6 r7 r8 r9 r10 r11 r12 r13 r14
  have hlr := blk_lt B9
  have G9 := Lib.hid (gb_trans G0 gx)
  clear gx B9 KB R0 G0
  go_wp2
  refine bodyPost_ret (v := .agg (badA 1 (to : Nat))) (by simp only [results, Tryd.results11, badA]; go_simp) rfl ⟨rfl, ?_⟩
  exact gb_own (gb_own (gb_own (gb_own (gb_own (gb_own (gb_own (gb_own (gb_own (gb_own (gb_own (gb_own (gb_own (gb_own (gb_own (G9.out) (Nat.le_refl _) (gb_set _ _ _ _)) (Nat.le_refl _) (gb_set _ _ _ _)) (Nat.le_refl _) (gb_set _ _ _ _)) (Nat.le_refl _) (gb_set _ _ _ _)) (Nat.le_refl _) (gb_set _ _ _ _)) (Nat.le_refl _) (gb_set _ _ _ _)) (Nat.le_refl _) (gb_set _ _ _ _)) (Nat.le_refl _) (gb_set _ _ _ _)) (Nat.le_refl _) (gb_set _ _ _ _)) (Nat.le_refl _) (gb_set _ _ _ _)) (Nat.le_refl _) (gb_set _ _ _ _)) (Nat.le_refl _) (gb_set _ _ _ _)) (Nat.le_refl _) (gb_set _ _ _ _)) (Nat.le_refl _) (gb_set _ _ _ _)) (Nat.le_refl _) (gb_set _ _ _ _)

end Go.Proofs.YtikjfmpdfeaooaaDoor.Dh
