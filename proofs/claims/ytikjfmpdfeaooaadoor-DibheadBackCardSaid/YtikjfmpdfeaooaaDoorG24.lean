/- Texts of one kind, one behind the other: DiM40g, DiM40b, DiM52b, Di4a. -/
import Derived.Deep.RegionHeld3
import Derived.Test.YtikjfmpdfeaooaaDoorG18
import Derived.Test.YtikjfmpdfeaooaaDoorG21
/- The document's masks of a long head, where they are told (40, good; written by wip/gen/di6.py). -/
namespace Go.Proofs.YtikjfmpdfeaooaaDoor.Dh
open Go.ChangeShapes Go.WideShapes Go.ChangeAt Go.RowKit
open Go.Proofs.YtikjfmpdfeaooaaDoor.Le Go.Proofs.YtikjfmpdfeaooaaDoor.Sr Go.Proofs.YtikjfmpdfeaooaaDoor.Ma
set_option linter.unusedVariables false

set_option maxRecDepth 100000 in
set_option maxHeartbeats 8000000 in
theorem rmasks_40_good (s : ByteArray) (X fY D C : Int) (T : Bool) (fr to : Nat) (q : Int) (W : World) (hfr : fr ≤ 4611686018427387904) (hs : fr + 52 ≤ s.size) (hq : True) (hqt : ((fr + 52 : Nat) : Int) ≤ to) (m0 m1 m2 m3 : Int) (e0 : ((w4 s (fr + 40) : Nat) : Int) = m0) (e1 : ((w4 s (fr + 44) : Nat) : Int) = m1) (e2 : ((w4 s (fr + 48) : Nat) : Int) = m2) (e3 : 0 = m3) (res : Array Value) (KF : FourIs (fun k => if k = 0 then m0 else if k = 1 then m1 else if k = 2 then m2 else m3) D res 0 0) :
    Calls Tryd.prog 35 #[.string s, .agg #[.int .i64 40, .int .i64 X, .int .i64 fY, .bool T, .int .i64 D, .int .i64 3, .int .i64 C, .int .i64 0, .int .i64 0, .int .i64 0, .int .i64 0, .int .i64 (fr : Nat), .int .i64 q, .int .i64 0, .int .i64 0], .int .i64 (to : Nat)] W fun e w' => e = .returned (.agg #[.int .i64 40, .int .i64 X, .int .i64 fY, .bool T, .int .i64 D, .int .i64 3, .int .i64 C, .int .i64 m0, .int .i64 m1, .int .i64 m2, .int .i64 m3, .int .i64 (fr : Nat), .int .i64 ((fr + 52 : Nat)), .int .i64 0, .int .i64 0]) ∧ W.grownBy w' none := by
  have w40 : IntKind.i64.wrap ((fr : Int) + 40) = (fr : Int) + 40 := IntWalk.i64_in _ (by omega)
  obtain ⟨a, ha⟩ : ∃ a : Nat, fr + 40 = a := ⟨_, rfl⟩
  have haI : (fr : Int) + 40 = (a : Int) := by omega
  rw [haI] at w40
  have K0 := fun u => le4_is s a (by omega) u
  have K1 := fun u => le4_is s (a + 4) (by omega) u
  have K2 := fun u => le4_is s (a + 8) (by omega) u
  rw [show fr + 40 = a from ha] at e0
  rw [show fr + 44 = a + 4 from by omega] at e1
  rw [show fr + 48 = a + 8 from by omega] at e2
  simp only [e0] at K0
  simp only [e1] at K1
  simp only [e2] at K2
  have K0 := Lib.hid K0
  have K1 := Lib.hid K1
  have K2 := Lib.hid K2
  obtain ⟨b4, hb4⟩ : ∃ z : Int, ((a + 4 : Nat) : Int) = z := ⟨_, rfl⟩
  have wa4 : IntKind.i64.wrap ((a : Int) + 4) = b4 := by rw [IntWalk.i64_in _ (by omega)]; omega
  obtain ⟨b8, hb8⟩ : ∃ z : Int, ((a + 8 : Nat) : Int) = z := ⟨_, rfl⟩
  have wa8 : IntKind.i64.wrap ((a : Int) + 8) = b8 := by rw [IntWalk.i64_in _ (by omega)]; omega
  obtain ⟨b12, hb12⟩ : ∃ z : Int, ((a + 12 : Nat) : Int) = z := ⟨_, rfl⟩
  have wa12 : IntKind.i64.wrap ((a : Int) + 12) = b12 := by rw [IntWalk.i64_in _ (by omega)]; omega
  obtain ⟨b16, hb16⟩ : ∃ z : Int, ((a + 16 : Nat) : Int) = z := ⟨_, rfl⟩
  have wa16 : IntKind.i64.wrap ((a : Int) + 16) = b16 := by rw [IntWalk.i64_in _ (by omega)]; omega
  have S0 : ∀ w, (Instr.slice 9 (.string s) (some (.int .i64 (a : Nat))) (some (.int .i64 b4)) none).run Tryd.prog w = .ok (.string (s.extract a (a + 4))) w := fun w => by rw [← hb4]; exact cut_at s a 4 (by omega) w
  have S1 : ∀ w, (Instr.slice 9 (.string s) (some (.int .i64 b4)) (some (.int .i64 b8)) none).run Tryd.prog w = .ok (.string (s.extract (a + 4) ((a + 4) + 4))) w := fun w => by rw [← hb4, ← hb8, show ((a + 8 : Nat) : Int) = (((a + 4) + 4 : Nat) : Int) from by omega]; exact cut_at s (a + 4) 4 (by omega) w
  have S2 : ∀ w, (Instr.slice 9 (.string s) (some (.int .i64 b8)) (some (.int .i64 b12)) none).run Tryd.prog w = .ok (.string (s.extract (a + 8) ((a + 8) + 4))) w := fun w => by rw [← hb8, ← hb12, show ((a + 12 : Nat) : Int) = (((a + 8) + 4 : Nat) : Int) from by omega]; exact cut_at s (a + 8) 4 (by omega) w
  have hq2 : ((fr + 52 : Nat) : Int) = b12 := by omega
  have hgt : ¬ (to : Int) < b12 := by omega
  have HQ2 := Lib.hid hq2
  subst e3
  have KF2 := Lib.hid KF.2
  clear KF e0 e1 e2 hfr hs hq hqt hb4 hb8 hb12 hb16 ha hq2
  go_enter Tryd.func35, Tryd.ntmps35
  go_upto_region 1 with fail
  have I0 : DJ W #[.int .i64 40, .int .i64 X, .int .i64 fY, .bool T, .int .i64 D, .int .i64 3, .int .i64 C, .int .i64 0, .int .i64 0, .int .i64 0, .int .i64 0, .int .i64 (fr : Nat), .int .i64 q, .int .i64 0, .int .i64 0] _ := DJ.new
  have n1 : ¬ W.heap.size = W.heap.size + 1 := by omega
  have n2 : ¬ W.heap.size + 1 = W.heap.size := by omega
  generalize ((W.alloc (.cells #[.int .i64 40, .int .i64 X, .int .i64 fY, .bool T, .int .i64 D, .int .i64 3, .int .i64 C, .int .i64 0, .int .i64 0, .int .i64 0, .int .i64 0, .int .i64 (fr : Nat), .int .i64 q, .int .i64 0, .int .i64 0] 37)).alloc (.cells #[.int .i64 0, .int .i64 0, .int .i64 0, .bool false, .int .i64 0, .int .i64 0, .int .i64 0, .int .i64 0, .int .i64 0, .int .i64 0, .int .i64 0, .int .i64 0, .int .i64 0, .int .i64 0, .int .i64 0] 37)) = w0 at I0 ⊢
  have hs0 : W.heap.size + 1 < w0.heap.size := blk_lt I0.res
  have a0 := blk_cell I0.hd 0
  have a1 := blk_cell I0.hd 1
  have a2 := blk_cell I0.hd 2
  have a3 := blk_cell I0.hd 3
  have a4 := blk_cell I0.hd 4
  have a5 := blk_cell I0.hd 5
  have a6 := blk_cell I0.hd 6
  have a7 := blk_cell I0.hd 7
  have a8 := blk_cell I0.hd 8
  have a9 := blk_cell I0.hd 9
  have a10 := blk_cell I0.hd 10
  have a11 := blk_cell I0.hd 11
  have a12 := blk_cell I0.hd 12
  have a13 := blk_cell I0.hd 13
  have a14 := blk_cell I0.hd 14
  have f0 := blk_free I0.hd 0
  have f1 := blk_free I0.hd 1
  have f2 := blk_free I0.hd 2
  have f3 := blk_free I0.hd 3
  have f4 := blk_free I0.hd 4
  have f5 := blk_free I0.hd 5
  have f6 := blk_free I0.hd 6
  have f7 := blk_free I0.hd 7
  have f8 := blk_free I0.hd 8
  have f9 := blk_free I0.hd 9
  have f10 := blk_free I0.hd 10
  have f11 := blk_free I0.hd 11
  have f12 := blk_free I0.hd 12
  have f13 := blk_free I0.hd 13
  have f14 := blk_free I0.hd 14
  simp only [List.getElem?_toArray, List.getElem?_cons_succ, List.getElem?_cons_zero] at a0 a1 a2 a3 a4 a5 a6 a7 a8 a9 a10 a11 a12 a13 a14
  have r0 := blk_cell I0.res 0
  have r1 := blk_cell I0.res 1
  have r2 := blk_cell I0.res 2
  have r3 := blk_cell I0.res 3
  have r4 := blk_cell I0.res 4
  have r5 := blk_cell I0.res 5
  have r6 := blk_cell I0.res 6
  have r7 := blk_cell I0.res 7
  have r8 := blk_cell I0.res 8
  have r9 := blk_cell I0.res 9
  have r10 := blk_cell I0.res 10
  have r11 := blk_cell I0.res 11
  have r12 := blk_cell I0.res 12
  have r13 := blk_cell I0.res 13
  have r14 := blk_cell I0.res 14
  have g0 := blk_free I0.res 0
  have g1 := blk_free I0.res 1
  have g2 := blk_free I0.res 2
  have g3 := blk_free I0.res 3
  have g4 := blk_free I0.res 4
  have g5 := blk_free I0.res 5
  have g6 := blk_free I0.res 6
  have g7 := blk_free I0.res 7
  have g8 := blk_free I0.res 8
  have g9 := blk_free I0.res 9
  have g10 := blk_free I0.res 10
  have g11 := blk_free I0.res 11
  have g12 := blk_free I0.res 12
  have g13 := blk_free I0.res 13
  have g14 := blk_free I0.res 14
  simp only [List.getElem?_toArray, List.getElem?_cons_succ, List.getElem?_cons_zero] at r0 r1 r2 r3 r4 r5 r6 r7 r8 r9 r10 r11 r12 r13 r14
  have l0 := blk_lt I0.hd
  have l1 := blk_lt I0.res
  have HI0 := Lib.hid I0
  clear I0
  go_upto_region 10 with fail
  refine abs_w (R := fun w => DJ W #[.int .i64 40, .int .i64 X, .int .i64 fY, .bool T, .int .i64 D, .int .i64 3, .int .i64 C, .int .i64 0, .int .i64 0, .int .i64 0, .int .i64 0, .int .i64 (fr : Nat), .int .i64 ((fr + 52 : Nat)), .int .i64 0, .int .i64 0] w ∧ W.heap.size + 1 < w.heap.size) ⟨?_, ?_⟩ (fun w1 I1x => ?_)
  · rw [HQ2.out]; exact HI0.out.set 12 _
  · rw [World.size_setCell]; exact hs0
  obtain ⟨I1, hs1⟩ := I1x
  rw [HQ2.out] at I1
  clear a0 f0 r0 g0 a1 f1 r1 g1 a2 f2 r2 g2 a3 f3 r3 g3 a4 f4 r4 g4 a5 f5 r5 g5 a6 f6 r6 g6 a7 f7 r7 g7 a8 f8 r8 g8 a9 f9 r9 g9 a10 f10 r10 g10 a11 f11 r11 g11 a12 f12 r12 g12 a13 f13 r13 g13 a14 f14 r14 g14 l0 l1
  clear HI0 hs0
  have a0 := blk_cell I1.hd 0
  have a1 := blk_cell I1.hd 1
  have a2 := blk_cell I1.hd 2
  have a3 := blk_cell I1.hd 3
  have a4 := blk_cell I1.hd 4
  have a5 := blk_cell I1.hd 5
  have a6 := blk_cell I1.hd 6
  have a7 := blk_cell I1.hd 7
  have a8 := blk_cell I1.hd 8
  have a9 := blk_cell I1.hd 9
  have a10 := blk_cell I1.hd 10
  have a11 := blk_cell I1.hd 11
  have a12 := blk_cell I1.hd 12
  have a13 := blk_cell I1.hd 13
  have a14 := blk_cell I1.hd 14
  have f0 := blk_free I1.hd 0
  have f1 := blk_free I1.hd 1
  have f2 := blk_free I1.hd 2
  have f3 := blk_free I1.hd 3
  have f4 := blk_free I1.hd 4
  have f5 := blk_free I1.hd 5
  have f6 := blk_free I1.hd 6
  have f7 := blk_free I1.hd 7
  have f8 := blk_free I1.hd 8
  have f9 := blk_free I1.hd 9
  have f10 := blk_free I1.hd 10
  have f11 := blk_free I1.hd 11
  have f12 := blk_free I1.hd 12
  have f13 := blk_free I1.hd 13
  have f14 := blk_free I1.hd 14
  simp only [List.getElem?_toArray, List.getElem?_cons_succ, List.getElem?_cons_zero] at a0 a1 a2 a3 a4 a5 a6 a7 a8 a9 a10 a11 a12 a13 a14
  have r0 := blk_cell I1.res 0
  have r1 := blk_cell I1.res 1
  have r2 := blk_cell I1.res 2
  have r3 := blk_cell I1.res 3
  have r4 := blk_cell I1.res 4
  have r5 := blk_cell I1.res 5
  have r6 := blk_cell I1.res 6
  have r7 := blk_cell I1.res 7
  have r8 := blk_cell I1.res 8
  have r9 := blk_cell I1.res 9
  have r10 := blk_cell I1.res 10
  have r11 := blk_cell I1.res 11
  have r12 := blk_cell I1.res 12
  have r13 := blk_cell I1.res 13
  have r14 := blk_cell I1.res 14
  have g0 := blk_free I1.res 0
  have g1 := blk_free I1.res 1
  have g2 := blk_free I1.res 2
  have g3 := blk_free I1.res 3
  have g4 := blk_free I1.res 4
  have g5 := blk_free I1.res 5
  have g6 := blk_free I1.res 6
  have g7 := blk_free I1.res 7
  have g8 := blk_free I1.res 8
  have g9 := blk_free I1.res 9
  have g10 := blk_free I1.res 10
  have g11 := blk_free I1.res 11
  have g12 := blk_free I1.res 12
  have g13 := blk_free I1.res 13
  have g14 := blk_free I1.res 14
  simp only [List.getElem?_toArray, List.getElem?_cons_succ, List.getElem?_cons_zero] at r0 r1 r2 r3 r4 r5 r6 r7 r8 r9 r10 r11 r12 r13 r14
  have l0 := blk_lt I1.hd
  have l1 := blk_lt I1.res
  have HI1 := Lib.hid I1
  clear I1
  go_upto_region 12 with fail
  go_region_held3 (fun _ => True) (trivial)
    (first
      | (go_at_call 29; with_reducible refine (K0.out _).mono ?_; rintro e w' ⟨rfl, rfl⟩)
      | (go_at_call 29; with_reducible refine (K1.out _).mono ?_; rintro e w' ⟨rfl, rfl⟩)
      | (go_at_call 29; with_reducible refine (K2.out _).mono ?_; rintro e w' ⟨rfl, rfl⟩))
  all_goals
    obtain ⟨lb, hlb⟩ : ∃ k, w1.heap.size = k := ⟨_, rfl⟩
    rw [hlb] at hs1 ⊢
    refine abs_w (R := DK W lb #[.int .i64 40, .int .i64 X, .int .i64 fY, .bool T, .int .i64 D, .int .i64 3, .int .i64 C, .int .i64 0, .int .i64 0, .int .i64 0, .int .i64 0, .int .i64 (fr : Nat), .int .i64 b12, .int .i64 0, .int .i64 0] #[.int .i64 m0, .int .i64 m1, .int .i64 m2, .int .i64 0]) ⟨⟨?_, ?_, ?_⟩, ?_, hs1⟩ (fun u2 I2 => ?_)
    · first | exact blk_al HI1.out.hd _ | exact blk_al (w := w1.drew) HI1.out.hd _
    · first | exact blk_al HI1.out.res _ | exact blk_al (w := w1.drew) HI1.out.res _
    · first | exact gb_trans (gb_trans HI1.out.gb (World.grownBy_alloc w1 _ none)) (gb_drew _ _) | exact gb_trans (gb_trans HI1.out.gb (gb_drew w1 _)) (World.grownBy_alloc w1.drew _ none)
    · first | (rw [← hlb]; exact blk_at (w := w1)) | (rw [← hlb]; exact blk_at (w := w1.drew))
    clear a0 f0 r0 g0 a1 f1 r1 g1 a2 f2 r2 g2 a3 f3 r3 g3 a4 f4 r4 g4 a5 f5 r5 g5 a6 f6 r6 g6 a7 f7 r7 g7 a8 f8 r8 g8 a9 f9 r9 g9 a10 f10 r10 g10 a11 f11 r11 g11 a12 f12 r12 g12 a13 f13 r13 g13 a14 f14 r14 g14 l0 l1
    have a0 := blk_cell I2.dj.hd 0
    have a1 := blk_cell I2.dj.hd 1
    have a2 := blk_cell I2.dj.hd 2
    have a3 := blk_cell I2.dj.hd 3
    have a4 := blk_cell I2.dj.hd 4
    have a5 := blk_cell I2.dj.hd 5
    have a6 := blk_cell I2.dj.hd 6
    have a7 := blk_cell I2.dj.hd 7
    have a8 := blk_cell I2.dj.hd 8
    have a9 := blk_cell I2.dj.hd 9
    have a10 := blk_cell I2.dj.hd 10
    have a11 := blk_cell I2.dj.hd 11
    have a12 := blk_cell I2.dj.hd 12
    have a13 := blk_cell I2.dj.hd 13
    have a14 := blk_cell I2.dj.hd 14
    have f0 := blk_free I2.dj.hd 0
    have f1 := blk_free I2.dj.hd 1
    have f2 := blk_free I2.dj.hd 2
    have f3 := blk_free I2.dj.hd 3
    have f4 := blk_free I2.dj.hd 4
    have f5 := blk_free I2.dj.hd 5
    have f6 := blk_free I2.dj.hd 6
    have f7 := blk_free I2.dj.hd 7
    have f8 := blk_free I2.dj.hd 8
    have f9 := blk_free I2.dj.hd 9
    have f10 := blk_free I2.dj.hd 10
    have f11 := blk_free I2.dj.hd 11
    have f12 := blk_free I2.dj.hd 12
    have f13 := blk_free I2.dj.hd 13
    have f14 := blk_free I2.dj.hd 14
    simp only [List.getElem?_toArray, List.getElem?_cons_succ, List.getElem?_cons_zero] at a0 a1 a2 a3 a4 a5 a6 a7 a8 a9 a10 a11 a12 a13 a14
    have r0 := blk_cell I2.dj.res 0
    have r1 := blk_cell I2.dj.res 1
    have r2 := blk_cell I2.dj.res 2
    have r3 := blk_cell I2.dj.res 3
    have r4 := blk_cell I2.dj.res 4
    have r5 := blk_cell I2.dj.res 5
    have r6 := blk_cell I2.dj.res 6
    have r7 := blk_cell I2.dj.res 7
    have r8 := blk_cell I2.dj.res 8
    have r9 := blk_cell I2.dj.res 9
    have r10 := blk_cell I2.dj.res 10
    have r11 := blk_cell I2.dj.res 11
    have r12 := blk_cell I2.dj.res 12
    have r13 := blk_cell I2.dj.res 13
    have r14 := blk_cell I2.dj.res 14
    have g0 := blk_free I2.dj.res 0
    have g1 := blk_free I2.dj.res 1
    have g2 := blk_free I2.dj.res 2
    have g3 := blk_free I2.dj.res 3
    have g4 := blk_free I2.dj.res 4
    have g5 := blk_free I2.dj.res 5
    have g6 := blk_free I2.dj.res 6
    have g7 := blk_free I2.dj.res 7
    have g8 := blk_free I2.dj.res 8
    have g9 := blk_free I2.dj.res 9
    have g10 := blk_free I2.dj.res 10
    have g11 := blk_free I2.dj.res 11
    have g12 := blk_free I2.dj.res 12
    have g13 := blk_free I2.dj.res 13
    have g14 := blk_free I2.dj.res 14
    simp only [List.getElem?_toArray, List.getElem?_cons_succ, List.getElem?_cons_zero] at r0 r1 r2 r3 r4 r5 r6 r7 r8 r9 r10 r11 r12 r13 r14
    have l0 := blk_lt I2.dj.hd
    have l1 := blk_lt I2.dj.res
    have v0 := blk_cell I2.l 0
    have v1 := blk_cell I2.l 1
    have v2 := blk_cell I2.l 2
    have v3 := blk_cell I2.l 3
    have vf0 := blk_free I2.l 0
    have vf1 := blk_free I2.l 1
    have vf2 := blk_free I2.l 2
    have vf3 := blk_free I2.l 3
    simp only [List.getElem?_toArray, List.getElem?_cons_succ, List.getElem?_cons_zero] at v0 v1 v2 v3
    have l2 := blk_lt I2.l
    have HI2 := Lib.hid I2
    clear I2
    have hc4 : ∀ (u : World), u.cell? ⟨lb, 0, none⟩ = some (.int .i64 m0) → u.cell? ⟨lb, 1, none⟩ = some (.int .i64 m1) → u.cell? ⟨lb, 2, none⟩ = some (.int .i64 m2) → u.cell? ⟨lb, 3, none⟩ = some (.int .i64 0) → ∀ k, k < 4 → u.cell? ⟨lb, k, none⟩ = some (.int .i64 ((fun k => if k = 0 then m0 else if k = 1 then m1 else if k = 2 then m2 else 0) k)) := by
      intro u h0 h1 h2 h3 k hk
      obtain rfl | rfl | rfl | rfl : k = 0 ∨ k = 1 ∨ k = 2 ∨ k = 3 := by omega
      · exact h0
      · exact h1
      · exact h2
      · exact h3
    have HC4 := Lib.hid hc4
    clear hc4
    go_wp2_with fail
    refine (KF2.out lb _ (HC4.out _ v0 v1 v2 v3)).mono ?_
    rintro e u5 ⟨rfl, g5⟩
    have I5 := HI2.out.grown g5
    clear g5 HI2 HC4
    clear a0 f0 r0 g0 a1 f1 r1 g1 a2 f2 r2 g2 a3 f3 r3 g3 a4 f4 r4 g4 a5 f5 r5 g5 a6 f6 r6 g6 a7 f7 r7 g7 a8 f8 r8 g8 a9 f9 r9 g9 a10 f10 r10 g10 a11 f11 r11 g11 a12 f12 r12 g12 a13 f13 r13 g13 a14 f14 r14 g14 v0 vf0 v1 vf1 v2 vf2 v3 vf3 l0 l1 l2
    have a0 := blk_cell I5.dj.hd 0
    have a1 := blk_cell I5.dj.hd 1
    have a2 := blk_cell I5.dj.hd 2
    have a3 := blk_cell I5.dj.hd 3
    have a4 := blk_cell I5.dj.hd 4
    have a5 := blk_cell I5.dj.hd 5
    have a6 := blk_cell I5.dj.hd 6
    have a7 := blk_cell I5.dj.hd 7
    have a8 := blk_cell I5.dj.hd 8
    have a9 := blk_cell I5.dj.hd 9
    have a10 := blk_cell I5.dj.hd 10
    have a11 := blk_cell I5.dj.hd 11
    have a12 := blk_cell I5.dj.hd 12
    have a13 := blk_cell I5.dj.hd 13
    have a14 := blk_cell I5.dj.hd 14
    have f0 := blk_free I5.dj.hd 0
    have f1 := blk_free I5.dj.hd 1
    have f2 := blk_free I5.dj.hd 2
    have f3 := blk_free I5.dj.hd 3
    have f4 := blk_free I5.dj.hd 4
    have f5 := blk_free I5.dj.hd 5
    have f6 := blk_free I5.dj.hd 6
    have f7 := blk_free I5.dj.hd 7
    have f8 := blk_free I5.dj.hd 8
    have f9 := blk_free I5.dj.hd 9
    have f10 := blk_free I5.dj.hd 10
    have f11 := blk_free I5.dj.hd 11
    have f12 := blk_free I5.dj.hd 12
    have f13 := blk_free I5.dj.hd 13
    have f14 := blk_free I5.dj.hd 14
    simp only [List.getElem?_toArray, List.getElem?_cons_succ, List.getElem?_cons_zero] at a0 a1 a2 a3 a4 a5 a6 a7 a8 a9 a10 a11 a12 a13 a14
    have r0 := blk_cell I5.dj.res 0
    have r1 := blk_cell I5.dj.res 1
    have r2 := blk_cell I5.dj.res 2
    have r3 := blk_cell I5.dj.res 3
    have r4 := blk_cell I5.dj.res 4
    have r5 := blk_cell I5.dj.res 5
    have r6 := blk_cell I5.dj.res 6
    have r7 := blk_cell I5.dj.res 7
    have r8 := blk_cell I5.dj.res 8
    have r9 := blk_cell I5.dj.res 9
    have r10 := blk_cell I5.dj.res 10
    have r11 := blk_cell I5.dj.res 11
    have r12 := blk_cell I5.dj.res 12
    have r13 := blk_cell I5.dj.res 13
    have r14 := blk_cell I5.dj.res 14
    have g0 := blk_free I5.dj.res 0
    have g1 := blk_free I5.dj.res 1
    have g2 := blk_free I5.dj.res 2
    have g3 := blk_free I5.dj.res 3
    have g4 := blk_free I5.dj.res 4
    have g5 := blk_free I5.dj.res 5
    have g6 := blk_free I5.dj.res 6
    have g7 := blk_free I5.dj.res 7
    have g8 := blk_free I5.dj.res 8
    have g9 := blk_free I5.dj.res 9
    have g10 := blk_free I5.dj.res 10
    have g11 := blk_free I5.dj.res 11
    have g12 := blk_free I5.dj.res 12
    have g13 := blk_free I5.dj.res 13
    have g14 := blk_free I5.dj.res 14
    simp only [List.getElem?_toArray, List.getElem?_cons_succ, List.getElem?_cons_zero] at r0 r1 r2 r3 r4 r5 r6 r7 r8 r9 r10 r11 r12 r13 r14
    have l0 := blk_lt I5.dj.hd
    have l1 := blk_lt I5.dj.res
    have v0 := blk_cell I5.l 0
    have v1 := blk_cell I5.l 1
    have v2 := blk_cell I5.l 2
    have v3 := blk_cell I5.l 3
    have vf0 := blk_free I5.l 0
    have vf1 := blk_free I5.l 1
    have vf2 := blk_free I5.l 2
    have vf3 := blk_free I5.l 3
    simp only [List.getElem?_toArray, List.getElem?_cons_succ, List.getElem?_cons_zero] at v0 v1 v2 v3
    have l2 := blk_lt I5.l
    have HI5 := Lib.hid I5
    clear I5
    have n3 : ¬ lb = W.heap.size := by have := HI5.out.lt; omega
    have n4 : ¬ W.heap.size = lb := by have := HI5.out.lt; omega
    have n5 : ¬ lb = W.heap.size + 1 := by have := HI5.out.lt; omega
    go_upto_region 18 with fail
    go_region
    refine abs_w (R := DJ W #[.int .i64 40, .int .i64 X, .int .i64 fY, .bool T, .int .i64 D, .int .i64 3, .int .i64 C, .int .i64 m0, .int .i64 m1, .int .i64 m2, .int .i64 0, .int .i64 (fr : Nat), .int .i64 b12, .int .i64 0, .int .i64 0]) ?_ (fun u7 I7 => ?_)
    · first
        | exact DJ.as ((((HI5.out.dj.set 7 _).set 8 _).set 9 _).set 10 _) rfl
        | exact (DJ.as ((((HI5.out.dj.set 7 _).set 8 _).set 9 _).set 10 _) rfl).grown (gb_drew _ _)
        | exact DJ.as (((((HI5.out.dj.grown (gb_drew _ _)).set 7 _).set 8 _).set 9 _).set 10 _) rfl
    clear a0 f0 r0 g0 a1 f1 r1 g1 a2 f2 r2 g2 a3 f3 r3 g3 a4 f4 r4 g4 a5 f5 r5 g5 a6 f6 r6 g6 a7 f7 r7 g7 a8 f8 r8 g8 a9 f9 r9 g9 a10 f10 r10 g10 a11 f11 r11 g11 a12 f12 r12 g12 a13 f13 r13 g13 a14 f14 r14 g14 v0 vf0 v1 vf1 v2 vf2 v3 vf3 l0 l1 l2
    clear HI5 n3 n4 n5
    have a0 := blk_cell I7.hd 0
    have a1 := blk_cell I7.hd 1
    have a2 := blk_cell I7.hd 2
    have a3 := blk_cell I7.hd 3
    have a4 := blk_cell I7.hd 4
    have a5 := blk_cell I7.hd 5
    have a6 := blk_cell I7.hd 6
    have a7 := blk_cell I7.hd 7
    have a8 := blk_cell I7.hd 8
    have a9 := blk_cell I7.hd 9
    have a10 := blk_cell I7.hd 10
    have a11 := blk_cell I7.hd 11
    have a12 := blk_cell I7.hd 12
    have a13 := blk_cell I7.hd 13
    have a14 := blk_cell I7.hd 14
    have f0 := blk_free I7.hd 0
    have f1 := blk_free I7.hd 1
    have f2 := blk_free I7.hd 2
    have f3 := blk_free I7.hd 3
    have f4 := blk_free I7.hd 4
    have f5 := blk_free I7.hd 5
    have f6 := blk_free I7.hd 6
    have f7 := blk_free I7.hd 7
    have f8 := blk_free I7.hd 8
    have f9 := blk_free I7.hd 9
    have f10 := blk_free I7.hd 10
    have f11 := blk_free I7.hd 11
    have f12 := blk_free I7.hd 12
    have f13 := blk_free I7.hd 13
    have f14 := blk_free I7.hd 14
    simp only [List.getElem?_toArray, List.getElem?_cons_succ, List.getElem?_cons_zero] at a0 a1 a2 a3 a4 a5 a6 a7 a8 a9 a10 a11 a12 a13 a14
    have r0 := blk_cell I7.res 0
    have r1 := blk_cell I7.res 1
    have r2 := blk_cell I7.res 2
    have r3 := blk_cell I7.res 3
    have r4 := blk_cell I7.res 4
    have r5 := blk_cell I7.res 5
    have r6 := blk_cell I7.res 6
    have r7 := blk_cell I7.res 7
    have r8 := blk_cell I7.res 8
    have r9 := blk_cell I7.res 9
    have r10 := blk_cell I7.res 10
    have r11 := blk_cell I7.res 11
    have r12 := blk_cell I7.res 12
    have r13 := blk_cell I7.res 13
    have r14 := blk_cell I7.res 14
    have g0 := blk_free I7.res 0
    have g1 := blk_free I7.res 1
    have g2 := blk_free I7.res 2
    have g3 := blk_free I7.res 3
    have g4 := blk_free I7.res 4
    have g5 := blk_free I7.res 5
    have g6 := blk_free I7.res 6
    have g7 := blk_free I7.res 7
    have g8 := blk_free I7.res 8
    have g9 := blk_free I7.res 9
    have g10 := blk_free I7.res 10
    have g11 := blk_free I7.res 11
    have g12 := blk_free I7.res 12
    have g13 := blk_free I7.res 13
    have g14 := blk_free I7.res 14
    simp only [List.getElem?_toArray, List.getElem?_cons_succ, List.getElem?_cons_zero] at r0 r1 r2 r3 r4 r5 r6 r7 r8 r9 r10 r11 r12 r13 r14
    have l0 := blk_lt I7.hd
    have l1 := blk_lt I7.res
    have HI7 := Lib.hid I7
    clear I7
    go_wp2
    refine bodyPost_ret (v := .agg #[.int .i64 40, .int .i64 X, .int .i64 fY, .bool T, .int .i64 D, .int .i64 3, .int .i64 C, .int .i64 m0, .int .i64 m1, .int .i64 m2, .int .i64 0, .int .i64 (fr : Nat), .int .i64 b12, .int .i64 0, .int .i64 0]) (by simp only [results, Tryd.results35]; go_simp) rfl ⟨by rw [HQ2.out], ?_⟩
    exact gb_own (gb_own (gb_own (gb_own (gb_own (gb_own (gb_own (gb_own (gb_own (gb_own (gb_own (gb_own (gb_own (gb_own (gb_own (HI7.out.gb) (Nat.le_succ _) (gb_set _ _ _ _)) (Nat.le_succ _) (gb_set _ _ _ _)) (Nat.le_succ _) (gb_set _ _ _ _)) (Nat.le_succ _) (gb_set _ _ _ _)) (Nat.le_succ _) (gb_set _ _ _ _)) (Nat.le_succ _) (gb_set _ _ _ _)) (Nat.le_succ _) (gb_set _ _ _ _)) (Nat.le_succ _) (gb_set _ _ _ _)) (Nat.le_succ _) (gb_set _ _ _ _)) (Nat.le_succ _) (gb_set _ _ _ _)) (Nat.le_succ _) (gb_set _ _ _ _)) (Nat.le_succ _) (gb_set _ _ _ _)) (Nat.le_succ _) (gb_set _ _ _ _)) (Nat.le_succ _) (gb_set _ _ _ _)) (Nat.le_succ _) (gb_set _ _ _ _)

end Go.Proofs.YtikjfmpdfeaooaaDoor.Dh

/- The document's masks of a long head, where they are told (40, bad; written by wip/gen/di6.py). -/
namespace Go.Proofs.YtikjfmpdfeaooaaDoor.Dh
open Go.ChangeShapes Go.WideShapes Go.ChangeAt Go.RowKit
open Go.Proofs.YtikjfmpdfeaooaaDoor.Le Go.Proofs.YtikjfmpdfeaooaaDoor.Sr Go.Proofs.YtikjfmpdfeaooaaDoor.Ma
set_option linter.unusedVariables false

set_option maxRecDepth 100000 in
set_option maxHeartbeats 8000000 in
theorem rmasks_40_bad (s : ByteArray) (X fY D C : Int) (T : Bool) (fr to : Nat) (q : Int) (W : World) (hfr : fr ≤ 4611686018427387904) (hs : fr + 52 ≤ s.size) (hq : True) (hqt : ((fr + 52 : Nat) : Int) ≤ to) (t : Nat) (c : Int) (ht : t < 4) (hc : (c != 0) = true) (m0 m1 m2 m3 : Int) (e0 : ((w4 s (fr + 40) : Nat) : Int) = m0) (e1 : ((w4 s (fr + 44) : Nat) : Int) = m1) (e2 : ((w4 s (fr + 48) : Nat) : Int) = m2) (e3 : 0 = m3) (KF : FourIs (fun k => if k = 0 then m0 else if k = 1 then m1 else if k = 2 then m2 else m3) D #[.int .i64 0, .int .i64 0, .int .i64 0, .int .i64 0, .int .i64 0, .int .i64 0, .int .i64 0, .int .i64 0] (t : Nat) c) :
    Calls Tryd.prog 35 #[.string s, .agg #[.int .i64 40, .int .i64 X, .int .i64 fY, .bool T, .int .i64 D, .int .i64 3, .int .i64 C, .int .i64 0, .int .i64 0, .int .i64 0, .int .i64 0, .int .i64 (fr : Nat), .int .i64 q, .int .i64 0, .int .i64 0], .int .i64 (to : Nat)] W fun e w' => e = .returned (.agg (badA 2 ((fr : Int) + 40 + 4 * (t : Int)))) ∧ W.grownBy w' none := by
  have w40 : IntKind.i64.wrap ((fr : Int) + 40) = (fr : Int) + 40 := IntWalk.i64_in _ (by omega)
  obtain ⟨a, ha⟩ : ∃ a : Nat, fr + 40 = a := ⟨_, rfl⟩
  have haI : (fr : Int) + 40 = (a : Int) := by omega
  rw [haI] at w40 ⊢
  have K0 := fun u => le4_is s a (by omega) u
  have K1 := fun u => le4_is s (a + 4) (by omega) u
  have K2 := fun u => le4_is s (a + 8) (by omega) u
  rw [show fr + 40 = a from ha] at e0
  rw [show fr + 44 = a + 4 from by omega] at e1
  rw [show fr + 48 = a + 8 from by omega] at e2
  simp only [e0] at K0
  simp only [e1] at K1
  simp only [e2] at K2
  have K0 := Lib.hid K0
  have K1 := Lib.hid K1
  have K2 := Lib.hid K2
  obtain ⟨b4, hb4⟩ : ∃ z : Int, ((a + 4 : Nat) : Int) = z := ⟨_, rfl⟩
  have wa4 : IntKind.i64.wrap ((a : Int) + 4) = b4 := by rw [IntWalk.i64_in _ (by omega)]; omega
  obtain ⟨b8, hb8⟩ : ∃ z : Int, ((a + 8 : Nat) : Int) = z := ⟨_, rfl⟩
  have wa8 : IntKind.i64.wrap ((a : Int) + 8) = b8 := by rw [IntWalk.i64_in _ (by omega)]; omega
  obtain ⟨b12, hb12⟩ : ∃ z : Int, ((a + 12 : Nat) : Int) = z := ⟨_, rfl⟩
  have wa12 : IntKind.i64.wrap ((a : Int) + 12) = b12 := by rw [IntWalk.i64_in _ (by omega)]; omega
  obtain ⟨b16, hb16⟩ : ∃ z : Int, ((a + 16 : Nat) : Int) = z := ⟨_, rfl⟩
  have wa16 : IntKind.i64.wrap ((a : Int) + 16) = b16 := by rw [IntWalk.i64_in _ (by omega)]; omega
  have S0 : ∀ w, (Instr.slice 9 (.string s) (some (.int .i64 (a : Nat))) (some (.int .i64 b4)) none).run Tryd.prog w = .ok (.string (s.extract a (a + 4))) w := fun w => by rw [← hb4]; exact cut_at s a 4 (by omega) w
  have S1 : ∀ w, (Instr.slice 9 (.string s) (some (.int .i64 b4)) (some (.int .i64 b8)) none).run Tryd.prog w = .ok (.string (s.extract (a + 4) ((a + 4) + 4))) w := fun w => by rw [← hb4, ← hb8, show ((a + 8 : Nat) : Int) = (((a + 4) + 4 : Nat) : Int) from by omega]; exact cut_at s (a + 4) 4 (by omega) w
  have S2 : ∀ w, (Instr.slice 9 (.string s) (some (.int .i64 b8)) (some (.int .i64 b12)) none).run Tryd.prog w = .ok (.string (s.extract (a + 8) ((a + 8) + 4))) w := fun w => by rw [← hb8, ← hb12, show ((a + 12 : Nat) : Int) = (((a + 8) + 4 : Nat) : Int) from by omega]; exact cut_at s (a + 8) 4 (by omega) w
  have hq2 : ((fr + 52 : Nat) : Int) = b12 := by omega
  have hgt : ¬ (to : Int) < b12 := by omega
  have HQ2 := Lib.hid hq2
  obtain ⟨t4, ht4⟩ : ∃ z : Int, 4 * (t : Int) = z := ⟨_, rfl⟩
  have wt : IntKind.i64.wrap (4 * (t : Int)) = t4 := by rw [IntWalk.i64_in _ (by omega)]; exact ht4
  rw [ht4]
  have wp : IntKind.i64.wrap ((a : Int) + t4) = (a : Int) + t4 := IntWalk.i64_in _ (by omega)
  subst e3
  have KF2 := Lib.hid KF.2
  clear KF e0 e1 e2 hfr hs hq hqt hb4 hb8 hb12 hb16 ha ht4 ht hq2
  go_enter Tryd.func35, Tryd.ntmps35
  go_upto_region 1 with fail
  have I0 : DJ W #[.int .i64 40, .int .i64 X, .int .i64 fY, .bool T, .int .i64 D, .int .i64 3, .int .i64 C, .int .i64 0, .int .i64 0, .int .i64 0, .int .i64 0, .int .i64 (fr : Nat), .int .i64 q, .int .i64 0, .int .i64 0] _ := DJ.new
  have n1 : ¬ W.heap.size = W.heap.size + 1 := by omega
  have n2 : ¬ W.heap.size + 1 = W.heap.size := by omega
  generalize ((W.alloc (.cells #[.int .i64 40, .int .i64 X, .int .i64 fY, .bool T, .int .i64 D, .int .i64 3, .int .i64 C, .int .i64 0, .int .i64 0, .int .i64 0, .int .i64 0, .int .i64 (fr : Nat), .int .i64 q, .int .i64 0, .int .i64 0] 37)).alloc (.cells #[.int .i64 0, .int .i64 0, .int .i64 0, .bool false, .int .i64 0, .int .i64 0, .int .i64 0, .int .i64 0, .int .i64 0, .int .i64 0, .int .i64 0, .int .i64 0, .int .i64 0, .int .i64 0, .int .i64 0] 37)) = w0 at I0 ⊢
  have hs0 : W.heap.size + 1 < w0.heap.size := blk_lt I0.res
  have a0 := blk_cell I0.hd 0
  have a1 := blk_cell I0.hd 1
  have a2 := blk_cell I0.hd 2
  have a3 := blk_cell I0.hd 3
  have a4 := blk_cell I0.hd 4
  have a5 := blk_cell I0.hd 5
  have a6 := blk_cell I0.hd 6
  have a7 := blk_cell I0.hd 7
  have a8 := blk_cell I0.hd 8
  have a9 := blk_cell I0.hd 9
  have a10 := blk_cell I0.hd 10
  have a11 := blk_cell I0.hd 11
  have a12 := blk_cell I0.hd 12
  have a13 := blk_cell I0.hd 13
  have a14 := blk_cell I0.hd 14
  have f0 := blk_free I0.hd 0
  have f1 := blk_free I0.hd 1
  have f2 := blk_free I0.hd 2
  have f3 := blk_free I0.hd 3
  have f4 := blk_free I0.hd 4
  have f5 := blk_free I0.hd 5
  have f6 := blk_free I0.hd 6
  have f7 := blk_free I0.hd 7
  have f8 := blk_free I0.hd 8
  have f9 := blk_free I0.hd 9
  have f10 := blk_free I0.hd 10
  have f11 := blk_free I0.hd 11
  have f12 := blk_free I0.hd 12
  have f13 := blk_free I0.hd 13
  have f14 := blk_free I0.hd 14
  simp only [List.getElem?_toArray, List.getElem?_cons_succ, List.getElem?_cons_zero] at a0 a1 a2 a3 a4 a5 a6 a7 a8 a9 a10 a11 a12 a13 a14
  have r0 := blk_cell I0.res 0
  have r1 := blk_cell I0.res 1
  have r2 := blk_cell I0.res 2
  have r3 := blk_cell I0.res 3
  have r4 := blk_cell I0.res 4
  have r5 := blk_cell I0.res 5
  have r6 := blk_cell I0.res 6
  have r7 := blk_cell I0.res 7
  have r8 := blk_cell I0.res 8
  have r9 := blk_cell I0.res 9
  have r10 := blk_cell I0.res 10
  have r11 := blk_cell I0.res 11
  have r12 := blk_cell I0.res 12
  have r13 := blk_cell I0.res 13
  have r14 := blk_cell I0.res 14
  have g0 := blk_free I0.res 0
  have g1 := blk_free I0.res 1
  have g2 := blk_free I0.res 2
  have g3 := blk_free I0.res 3
  have g4 := blk_free I0.res 4
  have g5 := blk_free I0.res 5
  have g6 := blk_free I0.res 6
  have g7 := blk_free I0.res 7
  have g8 := blk_free I0.res 8
  have g9 := blk_free I0.res 9
  have g10 := blk_free I0.res 10
  have g11 := blk_free I0.res 11
  have g12 := blk_free I0.res 12
  have g13 := blk_free I0.res 13
  have g14 := blk_free I0.res 14
  simp only [List.getElem?_toArray, List.getElem?_cons_succ, List.getElem?_cons_zero] at r0 r1 r2 r3 r4 r5 r6 r7 r8 r9 r10 r11 r12 r13 r14
  have l0 := blk_lt I0.hd
  have l1 := blk_lt I0.res
  have HI0 := Lib.hid I0
  clear I0
  go_upto_region 10 with fail
  refine abs_w (R := fun w => DJ W #[.int .i64 40, .int .i64 X, .int .i64 fY, .bool T, .int .i64 D, .int .i64 3, .int .i64 C, .int .i64 0, .int .i64 0, .int .i64 0, .int .i64 0, .int .i64 (fr : Nat), .int .i64 ((fr + 52 : Nat)), .int .i64 0, .int .i64 0] w ∧ W.heap.size + 1 < w.heap.size) ⟨?_, ?_⟩ (fun w1 I1x => ?_)
  · rw [HQ2.out]; exact HI0.out.set 12 _
  · rw [World.size_setCell]; exact hs0
  obtain ⟨I1, hs1⟩ := I1x
  rw [HQ2.out] at I1
  clear a0 f0 r0 g0 a1 f1 r1 g1 a2 f2 r2 g2 a3 f3 r3 g3 a4 f4 r4 g4 a5 f5 r5 g5 a6 f6 r6 g6 a7 f7 r7 g7 a8 f8 r8 g8 a9 f9 r9 g9 a10 f10 r10 g10 a11 f11 r11 g11 a12 f12 r12 g12 a13 f13 r13 g13 a14 f14 r14 g14 l0 l1
  clear HI0 hs0
  have a0 := blk_cell I1.hd 0
  have a1 := blk_cell I1.hd 1
  have a2 := blk_cell I1.hd 2
  have a3 := blk_cell I1.hd 3
  have a4 := blk_cell I1.hd 4
  have a5 := blk_cell I1.hd 5
  have a6 := blk_cell I1.hd 6
  have a7 := blk_cell I1.hd 7
  have a8 := blk_cell I1.hd 8
  have a9 := blk_cell I1.hd 9
  have a10 := blk_cell I1.hd 10
  have a11 := blk_cell I1.hd 11
  have a12 := blk_cell I1.hd 12
  have a13 := blk_cell I1.hd 13
  have a14 := blk_cell I1.hd 14
  have f0 := blk_free I1.hd 0
  have f1 := blk_free I1.hd 1
  have f2 := blk_free I1.hd 2
  have f3 := blk_free I1.hd 3
  have f4 := blk_free I1.hd 4
  have f5 := blk_free I1.hd 5
  have f6 := blk_free I1.hd 6
  have f7 := blk_free I1.hd 7
  have f8 := blk_free I1.hd 8
  have f9 := blk_free I1.hd 9
  have f10 := blk_free I1.hd 10
  have f11 := blk_free I1.hd 11
  have f12 := blk_free I1.hd 12
  have f13 := blk_free I1.hd 13
  have f14 := blk_free I1.hd 14
  simp only [List.getElem?_toArray, List.getElem?_cons_succ, List.getElem?_cons_zero] at a0 a1 a2 a3 a4 a5 a6 a7 a8 a9 a10 a11 a12 a13 a14
  have r0 := blk_cell I1.res 0
  have r1 := blk_cell I1.res 1
  have r2 := blk_cell I1.res 2
  have r3 := blk_cell I1.res 3
  have r4 := blk_cell I1.res 4
  have r5 := blk_cell I1.res 5
  have r6 := blk_cell I1.res 6
  have r7 := blk_cell I1.res 7
  have r8 := blk_cell I1.res 8
  have r9 := blk_cell I1.res 9
  have r10 := blk_cell I1.res 10
  have r11 := blk_cell I1.res 11
  have r12 := blk_cell I1.res 12
  have r13 := blk_cell I1.res 13
  have r14 := blk_cell I1.res 14
  have g0 := blk_free I1.res 0
  have g1 := blk_free I1.res 1
  have g2 := blk_free I1.res 2
  have g3 := blk_free I1.res 3
  have g4 := blk_free I1.res 4
  have g5 := blk_free I1.res 5
  have g6 := blk_free I1.res 6
  have g7 := blk_free I1.res 7
  have g8 := blk_free I1.res 8
  have g9 := blk_free I1.res 9
  have g10 := blk_free I1.res 10
  have g11 := blk_free I1.res 11
  have g12 := blk_free I1.res 12
  have g13 := blk_free I1.res 13
  have g14 := blk_free I1.res 14
  simp only [List.getElem?_toArray, List.getElem?_cons_succ, List.getElem?_cons_zero] at r0 r1 r2 r3 r4 r5 r6 r7 r8 r9 r10 r11 r12 r13 r14
  have l0 := blk_lt I1.hd
  have l1 := blk_lt I1.res
  have HI1 := Lib.hid I1
  clear I1
  go_upto_region 12 with fail
  go_region_held3 (fun _ => True) (trivial)
    (first
      | (go_at_call 29; with_reducible refine (K0.out _).mono ?_; rintro e w' ⟨rfl, rfl⟩)
      | (go_at_call 29; with_reducible refine (K1.out _).mono ?_; rintro e w' ⟨rfl, rfl⟩)
      | (go_at_call 29; with_reducible refine (K2.out _).mono ?_; rintro e w' ⟨rfl, rfl⟩))
  all_goals
    obtain ⟨lb, hlb⟩ : ∃ k, w1.heap.size = k := ⟨_, rfl⟩
    rw [hlb] at hs1 ⊢
    refine abs_w (R := DK W lb #[.int .i64 40, .int .i64 X, .int .i64 fY, .bool T, .int .i64 D, .int .i64 3, .int .i64 C, .int .i64 0, .int .i64 0, .int .i64 0, .int .i64 0, .int .i64 (fr : Nat), .int .i64 b12, .int .i64 0, .int .i64 0] #[.int .i64 m0, .int .i64 m1, .int .i64 m2, .int .i64 0]) ⟨⟨?_, ?_, ?_⟩, ?_, hs1⟩ (fun u2 I2 => ?_)
    · first | exact blk_al HI1.out.hd _ | exact blk_al (w := w1.drew) HI1.out.hd _
    · first | exact blk_al HI1.out.res _ | exact blk_al (w := w1.drew) HI1.out.res _
    · first | exact gb_trans (gb_trans HI1.out.gb (World.grownBy_alloc w1 _ none)) (gb_drew _ _) | exact gb_trans (gb_trans HI1.out.gb (gb_drew w1 _)) (World.grownBy_alloc w1.drew _ none)
    · first | (rw [← hlb]; exact blk_at (w := w1)) | (rw [← hlb]; exact blk_at (w := w1.drew))
    clear a0 f0 r0 g0 a1 f1 r1 g1 a2 f2 r2 g2 a3 f3 r3 g3 a4 f4 r4 g4 a5 f5 r5 g5 a6 f6 r6 g6 a7 f7 r7 g7 a8 f8 r8 g8 a9 f9 r9 g9 a10 f10 r10 g10 a11 f11 r11 g11 a12 f12 r12 g12 a13 f13 r13 g13 a14 f14 r14 g14 l0 l1
    have a0 := blk_cell I2.dj.hd 0
    have a1 := blk_cell I2.dj.hd 1
    have a2 := blk_cell I2.dj.hd 2
    have a3 := blk_cell I2.dj.hd 3
    have a4 := blk_cell I2.dj.hd 4
    have a5 := blk_cell I2.dj.hd 5
    have a6 := blk_cell I2.dj.hd 6
    have a7 := blk_cell I2.dj.hd 7
    have a8 := blk_cell I2.dj.hd 8
    have a9 := blk_cell I2.dj.hd 9
    have a10 := blk_cell I2.dj.hd 10
    have a11 := blk_cell I2.dj.hd 11
    have a12 := blk_cell I2.dj.hd 12
    have a13 := blk_cell I2.dj.hd 13
    have a14 := blk_cell I2.dj.hd 14
    have f0 := blk_free I2.dj.hd 0
    have f1 := blk_free I2.dj.hd 1
    have f2 := blk_free I2.dj.hd 2
    have f3 := blk_free I2.dj.hd 3
    have f4 := blk_free I2.dj.hd 4
    have f5 := blk_free I2.dj.hd 5
    have f6 := blk_free I2.dj.hd 6
    have f7 := blk_free I2.dj.hd 7
    have f8 := blk_free I2.dj.hd 8
    have f9 := blk_free I2.dj.hd 9
    have f10 := blk_free I2.dj.hd 10
    have f11 := blk_free I2.dj.hd 11
    have f12 := blk_free I2.dj.hd 12
    have f13 := blk_free I2.dj.hd 13
    have f14 := blk_free I2.dj.hd 14
    simp only [List.getElem?_toArray, List.getElem?_cons_succ, List.getElem?_cons_zero] at a0 a1 a2 a3 a4 a5 a6 a7 a8 a9 a10 a11 a12 a13 a14
    have r0 := blk_cell I2.dj.res 0
    have r1 := blk_cell I2.dj.res 1
    have r2 := blk_cell I2.dj.res 2
    have r3 := blk_cell I2.dj.res 3
    have r4 := blk_cell I2.dj.res 4
    have r5 := blk_cell I2.dj.res 5
    have r6 := blk_cell I2.dj.res 6
    have r7 := blk_cell I2.dj.res 7
    have r8 := blk_cell I2.dj.res 8
    have r9 := blk_cell I2.dj.res 9
    have r10 := blk_cell I2.dj.res 10
    have r11 := blk_cell I2.dj.res 11
    have r12 := blk_cell I2.dj.res 12
    have r13 := blk_cell I2.dj.res 13
    have r14 := blk_cell I2.dj.res 14
    have g0 := blk_free I2.dj.res 0
    have g1 := blk_free I2.dj.res 1
    have g2 := blk_free I2.dj.res 2
    have g3 := blk_free I2.dj.res 3
    have g4 := blk_free I2.dj.res 4
    have g5 := blk_free I2.dj.res 5
    have g6 := blk_free I2.dj.res 6
    have g7 := blk_free I2.dj.res 7
    have g8 := blk_free I2.dj.res 8
    have g9 := blk_free I2.dj.res 9
    have g10 := blk_free I2.dj.res 10
    have g11 := blk_free I2.dj.res 11
    have g12 := blk_free I2.dj.res 12
    have g13 := blk_free I2.dj.res 13
    have g14 := blk_free I2.dj.res 14
    simp only [List.getElem?_toArray, List.getElem?_cons_succ, List.getElem?_cons_zero] at r0 r1 r2 r3 r4 r5 r6 r7 r8 r9 r10 r11 r12 r13 r14
    have l0 := blk_lt I2.dj.hd
    have l1 := blk_lt I2.dj.res
    have v0 := blk_cell I2.l 0
    have v1 := blk_cell I2.l 1
    have v2 := blk_cell I2.l 2
    have v3 := blk_cell I2.l 3
    have vf0 := blk_free I2.l 0
    have vf1 := blk_free I2.l 1
    have vf2 := blk_free I2.l 2
    have vf3 := blk_free I2.l 3
    simp only [List.getElem?_toArray, List.getElem?_cons_succ, List.getElem?_cons_zero] at v0 v1 v2 v3
    have l2 := blk_lt I2.l
    have HI2 := Lib.hid I2
    clear I2
    have hc4 : ∀ (u : World), u.cell? ⟨lb, 0, none⟩ = some (.int .i64 m0) → u.cell? ⟨lb, 1, none⟩ = some (.int .i64 m1) → u.cell? ⟨lb, 2, none⟩ = some (.int .i64 m2) → u.cell? ⟨lb, 3, none⟩ = some (.int .i64 0) → ∀ k, k < 4 → u.cell? ⟨lb, k, none⟩ = some (.int .i64 ((fun k => if k = 0 then m0 else if k = 1 then m1 else if k = 2 then m2 else 0) k)) := by
      intro u h0 h1 h2 h3 k hk
      obtain rfl | rfl | rfl | rfl : k = 0 ∨ k = 1 ∨ k = 2 ∨ k = 3 := by omega
      · exact h0
      · exact h1
      · exact h2
      · exact h3
    have HC4 := Lib.hid hc4
    clear hc4
    go_wp2_with fail
    refine (KF2.out lb _ (HC4.out _ v0 v1 v2 v3)).mono ?_
    rintro e u5 ⟨rfl, g5⟩
    have I5 := HI2.out.grown g5
    clear g5 HI2 HC4
    clear a0 f0 r0 g0 a1 f1 r1 g1 a2 f2 r2 g2 a3 f3 r3 g3 a4 f4 r4 g4 a5 f5 r5 g5 a6 f6 r6 g6 a7 f7 r7 g7 a8 f8 r8 g8 a9 f9 r9 g9 a10 f10 r10 g10 a11 f11 r11 g11 a12 f12 r12 g12 a13 f13 r13 g13 a14 f14 r14 g14 v0 vf0 v1 vf1 v2 vf2 v3 vf3 l0 l1 l2
    have a0 := blk_cell I5.dj.hd 0
    have a1 := blk_cell I5.dj.hd 1
    have a2 := blk_cell I5.dj.hd 2
    have a3 := blk_cell I5.dj.hd 3
    have a4 := blk_cell I5.dj.hd 4
    have a5 := blk_cell I5.dj.hd 5
    have a6 := blk_cell I5.dj.hd 6
    have a7 := blk_cell I5.dj.hd 7
    have a8 := blk_cell I5.dj.hd 8
    have a9 := blk_cell I5.dj.hd 9
    have a10 := blk_cell I5.dj.hd 10
    have a11 := blk_cell I5.dj.hd 11
    have a12 := blk_cell I5.dj.hd 12
    have a13 := blk_cell I5.dj.hd 13
    have a14 := blk_cell I5.dj.hd 14
    have f0 := blk_free I5.dj.hd 0
    have f1 := blk_free I5.dj.hd 1
    have f2 := blk_free I5.dj.hd 2
    have f3 := blk_free I5.dj.hd 3
    have f4 := blk_free I5.dj.hd 4
    have f5 := blk_free I5.dj.hd 5
    have f6 := blk_free I5.dj.hd 6
    have f7 := blk_free I5.dj.hd 7
    have f8 := blk_free I5.dj.hd 8
    have f9 := blk_free I5.dj.hd 9
    have f10 := blk_free I5.dj.hd 10
    have f11 := blk_free I5.dj.hd 11
    have f12 := blk_free I5.dj.hd 12
    have f13 := blk_free I5.dj.hd 13
    have f14 := blk_free I5.dj.hd 14
    simp only [List.getElem?_toArray, List.getElem?_cons_succ, List.getElem?_cons_zero] at a0 a1 a2 a3 a4 a5 a6 a7 a8 a9 a10 a11 a12 a13 a14
    have r0 := blk_cell I5.dj.res 0
    have r1 := blk_cell I5.dj.res 1
    have r2 := blk_cell I5.dj.res 2
    have r3 := blk_cell I5.dj.res 3
    have r4 := blk_cell I5.dj.res 4
    have r5 := blk_cell I5.dj.res 5
    have r6 := blk_cell I5.dj.res 6
    have r7 := blk_cell I5.dj.res 7
    have r8 := blk_cell I5.dj.res 8
    have r9 := blk_cell I5.dj.res 9
    have r10 := blk_cell I5.dj.res 10
    have r11 := blk_cell I5.dj.res 11
    have r12 := blk_cell I5.dj.res 12
    have r13 := blk_cell I5.dj.res 13
    have r14 := blk_cell I5.dj.res 14
    have g0 := blk_free I5.dj.res 0
    have g1 := blk_free I5.dj.res 1
    have g2 := blk_free I5.dj.res 2
    have g3 := blk_free I5.dj.res 3
    have g4 := blk_free I5.dj.res 4
    have g5 := blk_free I5.dj.res 5
    have g6 := blk_free I5.dj.res 6
    have g7 := blk_free I5.dj.res 7
    have g8 := blk_free I5.dj.res 8
    have g9 := blk_free I5.dj.res 9
    have g10 := blk_free I5.dj.res 10
    have g11 := blk_free I5.dj.res 11
    have g12 := blk_free I5.dj.res 12
    have g13 := blk_free I5.dj.res 13
    have g14 := blk_free I5.dj.res 14
    simp only [List.getElem?_toArray, List.getElem?_cons_succ, List.getElem?_cons_zero] at r0 r1 r2 r3 r4 r5 r6 r7 r8 r9 r10 r11 r12 r13 r14
    have l0 := blk_lt I5.dj.hd
    have l1 := blk_lt I5.dj.res
    have v0 := blk_cell I5.l 0
    have v1 := blk_cell I5.l 1
    have v2 := blk_cell I5.l 2
    have v3 := blk_cell I5.l 3
    have vf0 := blk_free I5.l 0
    have vf1 := blk_free I5.l 1
    have vf2 := blk_free I5.l 2
    have vf3 := blk_free I5.l 3
    simp only [List.getElem?_toArray, List.getElem?_cons_succ, List.getElem?_cons_zero] at v0 v1 v2 v3
    have l2 := blk_lt I5.l
    have HI5 := Lib.hid I5
    clear I5
    have KB := Lib.hid (fun u => rbad_calls 2 ((a : Int) + t4) u)
    unfold badA at KB
    go_wp2_with fail
    refine (KB.out _).mono ?_
    rintro e w9 ⟨rfl, gx⟩
    have HI9 := Lib.hid (HI5.out.dj.grown gx)
    have r0 := blk_cell HI9.out.res 0
    have r1 := blk_cell HI9.out.res 1
    have r2 := blk_cell HI9.out.res 2
    have r3 := blk_cell HI9.out.res 3
    have r4 := blk_cell HI9.out.res 4
    have r5 := blk_cell HI9.out.res 5
    have r6 := blk_cell HI9.out.res 6
    have r7 := blk_cell HI9.out.res 7
    have r8 := blk_cell HI9.out.res 8
    have r9 := blk_cell HI9.out.res 9
    have r10 := blk_cell HI9.out.res 10
    have r11 := blk_cell HI9.out.res 11
    have r12 := blk_cell HI9.out.res 12
    have r13 := blk_cell HI9.out.res 13
    have r14 := blk_cell HI9.out.res 14
    have g0 := blk_free HI9.out.res 0
    have g1 := blk_free HI9.out.res 1
    have g2 := blk_free HI9.out.res 2
    have g3 := blk_free HI9.out.res 3
    have g4 := blk_free HI9.out.res 4
    have g5 := blk_free HI9.out.res 5
    have g6 := blk_free HI9.out.res 6
    have g7 := blk_free HI9.out.res 7
    have g8 := blk_free HI9.out.res 8
    have g9 := blk_free HI9.out.res 9
    have g10 := blk_free HI9.out.res 10
    have g11 := blk_free HI9.out.res 11
    have g12 := blk_free HI9.out.res 12
    have g13 := blk_free HI9.out.res 13
    have g14 := blk_free HI9.out.res 14
    simp only [List.getElem?_toArray, List.getElem?_cons_succ, List.getElem?_cons_zero] at r0 r1 r2 r3 r4 r5 r6 r7 r8 r9 r10 r11 r12 r13 r14
    have l1 := blk_lt HI9.out.res
    clear gx KB
    go_wp2
    refine bodyPost_ret (v := .agg (badA 2 ((a : Int) + t4))) (by simp only [results, Tryd.results35, badA]; go_simp) rfl ⟨rfl, ?_⟩
    exact gb_own (gb_own (gb_own (gb_own (gb_own (gb_own (gb_own (gb_own (gb_own (gb_own (gb_own (gb_own (gb_own (gb_own (gb_own (HI9.out.gb) (Nat.le_succ _) (gb_set _ _ _ _)) (Nat.le_succ _) (gb_set _ _ _ _)) (Nat.le_succ _) (gb_set _ _ _ _)) (Nat.le_succ _) (gb_set _ _ _ _)) (Nat.le_succ _) (gb_set _ _ _ _)) (Nat.le_succ _) (gb_set _ _ _ _)) (Nat.le_succ _) (gb_set _ _ _ _)) (Nat.le_succ _) (gb_set _ _ _ _)) (Nat.le_succ _) (gb_set _ _ _ _)) (Nat.le_succ _) (gb_set _ _ _ _)) (Nat.le_succ _) (gb_set _ _ _ _)) (Nat.le_succ _) (gb_set _ _ _ _)) (Nat.le_succ _) (gb_set _ _ _ _)) (Nat.le_succ _) (gb_set _ _ _ _)) (Nat.le_succ _) (gb_set _ _ _ _)

end Go.Proofs.YtikjfmpdfeaooaaDoor.Dh

/- The document's masks of a long head, where they are told (52, bad; written by wip/gen/di6.py). -/
namespace Go.Proofs.YtikjfmpdfeaooaaDoor.Dh
open Go.ChangeShapes Go.WideShapes Go.ChangeAt Go.RowKit
open Go.Proofs.YtikjfmpdfeaooaaDoor.Le Go.Proofs.YtikjfmpdfeaooaaDoor.Sr Go.Proofs.YtikjfmpdfeaooaaDoor.Ma
set_option linter.unusedVariables false

set_option maxRecDepth 100000 in
set_option maxHeartbeats 8000000 in
theorem rmasks_52_bad (s : ByteArray) (X fY D C : Int) (T : Bool) (fr to : Nat) (q : Int) (W : World) (hfr : fr ≤ 4611686018427387904) (hs : fr + 52 ≤ s.size) (hq : q ≤ to) (hqt : q ≤ to) (t : Nat) (c : Int) (ht : t < 4) (hc : (c != 0) = true) (m0 m1 m2 m3 : Int) (e0 : ((w4 s (fr + 40) : Nat) : Int) = m0) (e1 : ((w4 s (fr + 44) : Nat) : Int) = m1) (e2 : ((w4 s (fr + 48) : Nat) : Int) = m2) (e3 : 0 = m3) (KF : FourIs (fun k => if k = 0 then m0 else if k = 1 then m1 else if k = 2 then m2 else m3) D #[.int .i64 0, .int .i64 0, .int .i64 0, .int .i64 0, .int .i64 0, .int .i64 0, .int .i64 0, .int .i64 0] (t : Nat) c) :
    Calls Tryd.prog 35 #[.string s, .agg #[.int .i64 52, .int .i64 X, .int .i64 fY, .bool T, .int .i64 D, .int .i64 3, .int .i64 C, .int .i64 0, .int .i64 0, .int .i64 0, .int .i64 0, .int .i64 (fr : Nat), .int .i64 q, .int .i64 0, .int .i64 0], .int .i64 (to : Nat)] W fun e w' => e = .returned (.agg (badA 2 ((fr : Int) + 40 + 4 * (t : Int)))) ∧ W.grownBy w' none := by
  have w40 : IntKind.i64.wrap ((fr : Int) + 40) = (fr : Int) + 40 := IntWalk.i64_in _ (by omega)
  obtain ⟨a, ha⟩ : ∃ a : Nat, fr + 40 = a := ⟨_, rfl⟩
  have haI : (fr : Int) + 40 = (a : Int) := by omega
  rw [haI] at w40 ⊢
  have K0 := fun u => le4_is s a (by omega) u
  have K1 := fun u => le4_is s (a + 4) (by omega) u
  have K2 := fun u => le4_is s (a + 8) (by omega) u
  rw [show fr + 40 = a from ha] at e0
  rw [show fr + 44 = a + 4 from by omega] at e1
  rw [show fr + 48 = a + 8 from by omega] at e2
  simp only [e0] at K0
  simp only [e1] at K1
  simp only [e2] at K2
  have K0 := Lib.hid K0
  have K1 := Lib.hid K1
  have K2 := Lib.hid K2
  obtain ⟨b4, hb4⟩ : ∃ z : Int, ((a + 4 : Nat) : Int) = z := ⟨_, rfl⟩
  have wa4 : IntKind.i64.wrap ((a : Int) + 4) = b4 := by rw [IntWalk.i64_in _ (by omega)]; omega
  obtain ⟨b8, hb8⟩ : ∃ z : Int, ((a + 8 : Nat) : Int) = z := ⟨_, rfl⟩
  have wa8 : IntKind.i64.wrap ((a : Int) + 8) = b8 := by rw [IntWalk.i64_in _ (by omega)]; omega
  obtain ⟨b12, hb12⟩ : ∃ z : Int, ((a + 12 : Nat) : Int) = z := ⟨_, rfl⟩
  have wa12 : IntKind.i64.wrap ((a : Int) + 12) = b12 := by rw [IntWalk.i64_in _ (by omega)]; omega
  obtain ⟨b16, hb16⟩ : ∃ z : Int, ((a + 16 : Nat) : Int) = z := ⟨_, rfl⟩
  have wa16 : IntKind.i64.wrap ((a : Int) + 16) = b16 := by rw [IntWalk.i64_in _ (by omega)]; omega
  have S0 : ∀ w, (Instr.slice 9 (.string s) (some (.int .i64 (a : Nat))) (some (.int .i64 b4)) none).run Tryd.prog w = .ok (.string (s.extract a (a + 4))) w := fun w => by rw [← hb4]; exact cut_at s a 4 (by omega) w
  have S1 : ∀ w, (Instr.slice 9 (.string s) (some (.int .i64 b4)) (some (.int .i64 b8)) none).run Tryd.prog w = .ok (.string (s.extract (a + 4) ((a + 4) + 4))) w := fun w => by rw [← hb4, ← hb8, show ((a + 8 : Nat) : Int) = (((a + 4) + 4 : Nat) : Int) from by omega]; exact cut_at s (a + 4) 4 (by omega) w
  have S2 : ∀ w, (Instr.slice 9 (.string s) (some (.int .i64 b8)) (some (.int .i64 b12)) none).run Tryd.prog w = .ok (.string (s.extract (a + 8) ((a + 8) + 4))) w := fun w => by rw [← hb8, ← hb12, show ((a + 12 : Nat) : Int) = (((a + 8) + 4 : Nat) : Int) from by omega]; exact cut_at s (a + 8) 4 (by omega) w
  have hgt : ¬ (to : Int) < q := by omega
  obtain ⟨t4, ht4⟩ : ∃ z : Int, 4 * (t : Int) = z := ⟨_, rfl⟩
  have wt : IntKind.i64.wrap (4 * (t : Int)) = t4 := by rw [IntWalk.i64_in _ (by omega)]; exact ht4
  rw [ht4]
  have wp : IntKind.i64.wrap ((a : Int) + t4) = (a : Int) + t4 := IntWalk.i64_in _ (by omega)
  subst e3
  have KF2 := Lib.hid KF.2
  clear KF e0 e1 e2 hfr hs hq hqt hb4 hb8 hb12 hb16 ha ht4 ht
  go_enter Tryd.func35, Tryd.ntmps35
  go_upto_region 1 with fail
  have I0 : DJ W #[.int .i64 52, .int .i64 X, .int .i64 fY, .bool T, .int .i64 D, .int .i64 3, .int .i64 C, .int .i64 0, .int .i64 0, .int .i64 0, .int .i64 0, .int .i64 (fr : Nat), .int .i64 q, .int .i64 0, .int .i64 0] _ := DJ.new
  have n1 : ¬ W.heap.size = W.heap.size + 1 := by omega
  have n2 : ¬ W.heap.size + 1 = W.heap.size := by omega
  generalize ((W.alloc (.cells #[.int .i64 52, .int .i64 X, .int .i64 fY, .bool T, .int .i64 D, .int .i64 3, .int .i64 C, .int .i64 0, .int .i64 0, .int .i64 0, .int .i64 0, .int .i64 (fr : Nat), .int .i64 q, .int .i64 0, .int .i64 0] 37)).alloc (.cells #[.int .i64 0, .int .i64 0, .int .i64 0, .bool false, .int .i64 0, .int .i64 0, .int .i64 0, .int .i64 0, .int .i64 0, .int .i64 0, .int .i64 0, .int .i64 0, .int .i64 0, .int .i64 0, .int .i64 0] 37)) = w0 at I0 ⊢
  have hs0 : W.heap.size + 1 < w0.heap.size := blk_lt I0.res
  have a0 := blk_cell I0.hd 0
  have a1 := blk_cell I0.hd 1
  have a2 := blk_cell I0.hd 2
  have a3 := blk_cell I0.hd 3
  have a4 := blk_cell I0.hd 4
  have a5 := blk_cell I0.hd 5
  have a6 := blk_cell I0.hd 6
  have a7 := blk_cell I0.hd 7
  have a8 := blk_cell I0.hd 8
  have a9 := blk_cell I0.hd 9
  have a10 := blk_cell I0.hd 10
  have a11 := blk_cell I0.hd 11
  have a12 := blk_cell I0.hd 12
  have a13 := blk_cell I0.hd 13
  have a14 := blk_cell I0.hd 14
  have f0 := blk_free I0.hd 0
  have f1 := blk_free I0.hd 1
  have f2 := blk_free I0.hd 2
  have f3 := blk_free I0.hd 3
  have f4 := blk_free I0.hd 4
  have f5 := blk_free I0.hd 5
  have f6 := blk_free I0.hd 6
  have f7 := blk_free I0.hd 7
  have f8 := blk_free I0.hd 8
  have f9 := blk_free I0.hd 9
  have f10 := blk_free I0.hd 10
  have f11 := blk_free I0.hd 11
  have f12 := blk_free I0.hd 12
  have f13 := blk_free I0.hd 13
  have f14 := blk_free I0.hd 14
  simp only [List.getElem?_toArray, List.getElem?_cons_succ, List.getElem?_cons_zero] at a0 a1 a2 a3 a4 a5 a6 a7 a8 a9 a10 a11 a12 a13 a14
  have r0 := blk_cell I0.res 0
  have r1 := blk_cell I0.res 1
  have r2 := blk_cell I0.res 2
  have r3 := blk_cell I0.res 3
  have r4 := blk_cell I0.res 4
  have r5 := blk_cell I0.res 5
  have r6 := blk_cell I0.res 6
  have r7 := blk_cell I0.res 7
  have r8 := blk_cell I0.res 8
  have r9 := blk_cell I0.res 9
  have r10 := blk_cell I0.res 10
  have r11 := blk_cell I0.res 11
  have r12 := blk_cell I0.res 12
  have r13 := blk_cell I0.res 13
  have r14 := blk_cell I0.res 14
  have g0 := blk_free I0.res 0
  have g1 := blk_free I0.res 1
  have g2 := blk_free I0.res 2
  have g3 := blk_free I0.res 3
  have g4 := blk_free I0.res 4
  have g5 := blk_free I0.res 5
  have g6 := blk_free I0.res 6
  have g7 := blk_free I0.res 7
  have g8 := blk_free I0.res 8
  have g9 := blk_free I0.res 9
  have g10 := blk_free I0.res 10
  have g11 := blk_free I0.res 11
  have g12 := blk_free I0.res 12
  have g13 := blk_free I0.res 13
  have g14 := blk_free I0.res 14
  simp only [List.getElem?_toArray, List.getElem?_cons_succ, List.getElem?_cons_zero] at r0 r1 r2 r3 r4 r5 r6 r7 r8 r9 r10 r11 r12 r13 r14
  have l0 := blk_lt I0.hd
  have l1 := blk_lt I0.res
  have HI0 := Lib.hid I0
  clear I0
  go_upto_region 12 with fail
  go_region_held3 (fun _ => True) (trivial)
    (first
      | (go_at_call 29; with_reducible refine (K0.out _).mono ?_; rintro e w' ⟨rfl, rfl⟩)
      | (go_at_call 29; with_reducible refine (K1.out _).mono ?_; rintro e w' ⟨rfl, rfl⟩)
      | (go_at_call 29; with_reducible refine (K2.out _).mono ?_; rintro e w' ⟨rfl, rfl⟩))
  all_goals
    obtain ⟨lb, hlb⟩ : ∃ k, w0.heap.size = k := ⟨_, rfl⟩
    rw [hlb] at hs0 ⊢
    refine abs_w (R := DK W lb #[.int .i64 52, .int .i64 X, .int .i64 fY, .bool T, .int .i64 D, .int .i64 3, .int .i64 C, .int .i64 0, .int .i64 0, .int .i64 0, .int .i64 0, .int .i64 (fr : Nat), .int .i64 q, .int .i64 0, .int .i64 0] #[.int .i64 m0, .int .i64 m1, .int .i64 m2, .int .i64 0]) ⟨⟨?_, ?_, ?_⟩, ?_, hs0⟩ (fun u2 I2 => ?_)
    · first | exact blk_al HI0.out.hd _ | exact blk_al (w := w0.drew) HI0.out.hd _
    · first | exact blk_al HI0.out.res _ | exact blk_al (w := w0.drew) HI0.out.res _
    · first | exact gb_trans (gb_trans HI0.out.gb (World.grownBy_alloc w0 _ none)) (gb_drew _ _) | exact gb_trans (gb_trans HI0.out.gb (gb_drew w0 _)) (World.grownBy_alloc w0.drew _ none)
    · first | (rw [← hlb]; exact blk_at (w := w0)) | (rw [← hlb]; exact blk_at (w := w0.drew))
    clear a0 f0 r0 g0 a1 f1 r1 g1 a2 f2 r2 g2 a3 f3 r3 g3 a4 f4 r4 g4 a5 f5 r5 g5 a6 f6 r6 g6 a7 f7 r7 g7 a8 f8 r8 g8 a9 f9 r9 g9 a10 f10 r10 g10 a11 f11 r11 g11 a12 f12 r12 g12 a13 f13 r13 g13 a14 f14 r14 g14 l0 l1
    have a0 := blk_cell I2.dj.hd 0
    have a1 := blk_cell I2.dj.hd 1
    have a2 := blk_cell I2.dj.hd 2
    have a3 := blk_cell I2.dj.hd 3
    have a4 := blk_cell I2.dj.hd 4
    have a5 := blk_cell I2.dj.hd 5
    have a6 := blk_cell I2.dj.hd 6
    have a7 := blk_cell I2.dj.hd 7
    have a8 := blk_cell I2.dj.hd 8
    have a9 := blk_cell I2.dj.hd 9
    have a10 := blk_cell I2.dj.hd 10
    have a11 := blk_cell I2.dj.hd 11
    have a12 := blk_cell I2.dj.hd 12
    have a13 := blk_cell I2.dj.hd 13
    have a14 := blk_cell I2.dj.hd 14
    have f0 := blk_free I2.dj.hd 0
    have f1 := blk_free I2.dj.hd 1
    have f2 := blk_free I2.dj.hd 2
    have f3 := blk_free I2.dj.hd 3
    have f4 := blk_free I2.dj.hd 4
    have f5 := blk_free I2.dj.hd 5
    have f6 := blk_free I2.dj.hd 6
    have f7 := blk_free I2.dj.hd 7
    have f8 := blk_free I2.dj.hd 8
    have f9 := blk_free I2.dj.hd 9
    have f10 := blk_free I2.dj.hd 10
    have f11 := blk_free I2.dj.hd 11
    have f12 := blk_free I2.dj.hd 12
    have f13 := blk_free I2.dj.hd 13
    have f14 := blk_free I2.dj.hd 14
    simp only [List.getElem?_toArray, List.getElem?_cons_succ, List.getElem?_cons_zero] at a0 a1 a2 a3 a4 a5 a6 a7 a8 a9 a10 a11 a12 a13 a14
    have r0 := blk_cell I2.dj.res 0
    have r1 := blk_cell I2.dj.res 1
    have r2 := blk_cell I2.dj.res 2
    have r3 := blk_cell I2.dj.res 3
    have r4 := blk_cell I2.dj.res 4
    have r5 := blk_cell I2.dj.res 5
    have r6 := blk_cell I2.dj.res 6
    have r7 := blk_cell I2.dj.res 7
    have r8 := blk_cell I2.dj.res 8
    have r9 := blk_cell I2.dj.res 9
    have r10 := blk_cell I2.dj.res 10
    have r11 := blk_cell I2.dj.res 11
    have r12 := blk_cell I2.dj.res 12
    have r13 := blk_cell I2.dj.res 13
    have r14 := blk_cell I2.dj.res 14
    have g0 := blk_free I2.dj.res 0
    have g1 := blk_free I2.dj.res 1
    have g2 := blk_free I2.dj.res 2
    have g3 := blk_free I2.dj.res 3
    have g4 := blk_free I2.dj.res 4
    have g5 := blk_free I2.dj.res 5
    have g6 := blk_free I2.dj.res 6
    have g7 := blk_free I2.dj.res 7
    have g8 := blk_free I2.dj.res 8
    have g9 := blk_free I2.dj.res 9
    have g10 := blk_free I2.dj.res 10
    have g11 := blk_free I2.dj.res 11
    have g12 := blk_free I2.dj.res 12
    have g13 := blk_free I2.dj.res 13
    have g14 := blk_free I2.dj.res 14
    simp only [List.getElem?_toArray, List.getElem?_cons_succ, List.getElem?_cons_zero] at r0 r1 r2 r3 r4 r5 r6 r7 r8 r9 r10 r11 r12 r13 r14
    have l0 := blk_lt I2.dj.hd
    have l1 := blk_lt I2.dj.res
    have v0 := blk_cell I2.l 0
    have v1 := blk_cell I2.l 1
    have v2 := blk_cell I2.l 2
    have v3 := blk_cell I2.l 3
    have vf0 := blk_free I2.l 0
    have vf1 := blk_free I2.l 1
    have vf2 := blk_free I2.l 2
    have vf3 := blk_free I2.l 3
    simp only [List.getElem?_toArray, List.getElem?_cons_succ, List.getElem?_cons_zero] at v0 v1 v2 v3
    have l2 := blk_lt I2.l
    have HI2 := Lib.hid I2
    clear I2
    have hc4 : ∀ (u : World), u.cell? ⟨lb, 0, none⟩ = some (.int .i64 m0) → u.cell? ⟨lb, 1, none⟩ = some (.int .i64 m1) → u.cell? ⟨lb, 2, none⟩ = some (.int .i64 m2) → u.cell? ⟨lb, 3, none⟩ = some (.int .i64 0) → ∀ k, k < 4 → u.cell? ⟨lb, k, none⟩ = some (.int .i64 ((fun k => if k = 0 then m0 else if k = 1 then m1 else if k = 2 then m2 else 0) k)) := by
      intro u h0 h1 h2 h3 k hk
      obtain rfl | rfl | rfl | rfl : k = 0 ∨ k = 1 ∨ k = 2 ∨ k = 3 := by omega
      · exact h0
      · exact h1
      · exact h2
      · exact h3
    have HC4 := Lib.hid hc4
    clear hc4
    go_wp2_with fail
    refine (KF2.out lb _ (HC4.out _ v0 v1 v2 v3)).mono ?_
    rintro e u5 ⟨rfl, g5⟩
    have I5 := HI2.out.grown g5
    clear g5 HI2 HC4
    clear a0 f0 r0 g0 a1 f1 r1 g1 a2 f2 r2 g2 a3 f3 r3 g3 a4 f4 r4 g4 a5 f5 r5 g5 a6 f6 r6 g6 a7 f7 r7 g7 a8 f8 r8 g8 a9 f9 r9 g9 a10 f10 r10 g10 a11 f11 r11 g11 a12 f12 r12 g12 a13 f13 r13 g13 a14 f14 r14 g14 v0 vf0 v1 vf1 v2 vf2 v3 vf3 l0 l1 l2
    have a0 := blk_cell I5.dj.hd 0
    have a1 := blk_cell I5.dj.hd 1
    have a2 := blk_cell I5.dj.hd 2
    have a3 := blk_cell I5.dj.hd 3
    have a4 := blk_cell I5.dj.hd 4
    have a5 := blk_cell I5.dj.hd 5
    have a6 := blk_cell I5.dj.hd 6
    have a7 := blk_cell I5.dj.hd 7
    have a8 := blk_cell I5.dj.hd 8
    have a9 := blk_cell I5.dj.hd 9
    have a10 := blk_cell I5.dj.hd 10
    have a11 := blk_cell I5.dj.hd 11
    have a12 := blk_cell I5.dj.hd 12
    have a13 := blk_cell I5.dj.hd 13
    have a14 := blk_cell I5.dj.hd 14
    have f0 := blk_free I5.dj.hd 0
    have f1 := blk_free I5.dj.hd 1
    have f2 := blk_free I5.dj.hd 2
    have f3 := blk_free I5.dj.hd 3
    have f4 := blk_free I5.dj.hd 4
    have f5 := blk_free I5.dj.hd 5
    have f6 := blk_free I5.dj.hd 6
    have f7 := blk_free I5.dj.hd 7
    have f8 := blk_free I5.dj.hd 8
    have f9 := blk_free I5.dj.hd 9
    have f10 := blk_free I5.dj.hd 10
    have f11 := blk_free I5.dj.hd 11
    have f12 := blk_free I5.dj.hd 12
    have f13 := blk_free I5.dj.hd 13
    have f14 := blk_free I5.dj.hd 14
    simp only [List.getElem?_toArray, List.getElem?_cons_succ, List.getElem?_cons_zero] at a0 a1 a2 a3 a4 a5 a6 a7 a8 a9 a10 a11 a12 a13 a14
    have r0 := blk_cell I5.dj.res 0
    have r1 := blk_cell I5.dj.res 1
    have r2 := blk_cell I5.dj.res 2
    have r3 := blk_cell I5.dj.res 3
    have r4 := blk_cell I5.dj.res 4
    have r5 := blk_cell I5.dj.res 5
    have r6 := blk_cell I5.dj.res 6
    have r7 := blk_cell I5.dj.res 7
    have r8 := blk_cell I5.dj.res 8
    have r9 := blk_cell I5.dj.res 9
    have r10 := blk_cell I5.dj.res 10
    have r11 := blk_cell I5.dj.res 11
    have r12 := blk_cell I5.dj.res 12
    have r13 := blk_cell I5.dj.res 13
    have r14 := blk_cell I5.dj.res 14
    have g0 := blk_free I5.dj.res 0
    have g1 := blk_free I5.dj.res 1
    have g2 := blk_free I5.dj.res 2
    have g3 := blk_free I5.dj.res 3
    have g4 := blk_free I5.dj.res 4
    have g5 := blk_free I5.dj.res 5
    have g6 := blk_free I5.dj.res 6
    have g7 := blk_free I5.dj.res 7
    have g8 := blk_free I5.dj.res 8
    have g9 := blk_free I5.dj.res 9
    have g10 := blk_free I5.dj.res 10
    have g11 := blk_free I5.dj.res 11
    have g12 := blk_free I5.dj.res 12
    have g13 := blk_free I5.dj.res 13
    have g14 := blk_free I5.dj.res 14
    simp only [List.getElem?_toArray, List.getElem?_cons_succ, List.getElem?_cons_zero] at r0 r1 r2 r3 r4 r5 r6 r7 r8 r9 r10 r11 r12 r13 r14
    have l0 := blk_lt I5.dj.hd
    have l1 := blk_lt I5.dj.res
    have v0 := blk_cell I5.l 0
    have v1 := blk_cell I5.l 1
    have v2 := blk_cell I5.l 2
    have v3 := blk_cell I5.l 3
    have vf0 := blk_free I5.l 0
    have vf1 := blk_free I5.l 1
    have vf2 := blk_free I5.l 2
    have vf3 := blk_free I5.l 3
    simp only [List.getElem?_toArray, List.getElem?_cons_succ, List.getElem?_cons_zero] at v0 v1 v2 v3
    have l2 := blk_lt I5.l
    have HI5 := Lib.hid I5
    clear I5
    have KB := Lib.hid (fun u => rbad_calls 2 ((a : Int) + t4) u)
    unfold badA at KB
    go_wp2_with fail
    refine (KB.out _).mono ?_
    rintro e w9 ⟨rfl, gx⟩
    have HI9 := Lib.hid (HI5.out.dj.grown gx)
    have r0 := blk_cell HI9.out.res 0
    have r1 := blk_cell HI9.out.res 1
    have r2 := blk_cell HI9.out.res 2
    have r3 := blk_cell HI9.out.res 3
    have r4 := blk_cell HI9.out.res 4
    have r5 := blk_cell HI9.out.res 5
    have r6 := blk_cell HI9.out.res 6
    have r7 := blk_cell HI9.out.res 7
    have r8 := blk_cell HI9.out.res 8
    have r9 := blk_cell HI9.out.res 9
    have r10 := blk_cell HI9.out.res 10
    have r11 := blk_cell HI9.out.res 11
    have r12 := blk_cell HI9.out.res 12
    have r13 := blk_cell HI9.out.res 13
    have r14 := blk_cell HI9.out.res 14
    have g0 := blk_free HI9.out.res 0
    have g1 := blk_free HI9.out.res 1
    have g2 := blk_free HI9.out.res 2
    have g3 := blk_free HI9.out.res 3
    have g4 := blk_free HI9.out.res 4
    have g5 := blk_free HI9.out.res 5
    have g6 := blk_free HI9.out.res 6
    have g7 := blk_free HI9.out.res 7
    have g8 := blk_free HI9.out.res 8
    have g9 := blk_free HI9.out.res 9
    have g10 := blk_free HI9.out.res 10
    have g11 := blk_free HI9.out.res 11
    have g12 := blk_free HI9.out.res 12
    have g13 := blk_free HI9.out.res 13
    have g14 := blk_free HI9.out.res 14
    simp only [List.getElem?_toArray, List.getElem?_cons_succ, List.getElem?_cons_zero] at r0 r1 r2 r3 r4 r5 r6 r7 r8 r9 r10 r11 r12 r13 r14
    have l1 := blk_lt HI9.out.res
    clear gx KB
    go_wp2
    refine bodyPost_ret (v := .agg (badA 2 ((a : Int) + t4))) (by simp only [results, Tryd.results35, badA]; go_simp) rfl ⟨rfl, ?_⟩
    exact gb_own (gb_own (gb_own (gb_own (gb_own (gb_own (gb_own (gb_own (gb_own (gb_own (gb_own (gb_own (gb_own (gb_own (gb_own (HI9.out.gb) (Nat.le_succ _) (gb_set _ _ _ _)) (Nat.le_succ _) (gb_set _ _ _ _)) (Nat.le_succ _) (gb_set _ _ _ _)) (Nat.le_succ _) (gb_set _ _ _ _)) (Nat.le_succ _) (gb_set _ _ _ _)) (Nat.le_succ _) (gb_set _ _ _ _)) (Nat.le_succ _) (gb_set _ _ _ _)) (Nat.le_succ _) (gb_set _ _ _ _)) (Nat.le_succ _) (gb_set _ _ _ _)) (Nat.le_succ _) (gb_set _ _ _ _)) (Nat.le_succ _) (gb_set _ _ _ _)) (Nat.le_succ _) (gb_set _ _ _ _)) (Nat.le_succ _) (gb_set _ _ _ _)) (Nat.le_succ _) (gb_set _ _ _ _)) (Nat.le_succ _) (gb_set _ _ _ _)

end Go.Proofs.YtikjfmpdfeaooaaDoor.Dh

/- The document's answer of a head of twelve bytes (a; written by wip/gen/di4.py). -/
namespace Go.Proofs.YtikjfmpdfeaooaaDoor.Dh
open Go.ChangeShapes Go.WideShapes Go.ChangeAt Go.RowKit
open Go.Proofs.YtikjfmpdfeaooaaDoor.Le Go.Proofs.YtikjfmpdfeaooaaDoor.Sr Go.Proofs.YtikjfmpdfeaooaaDoor.Ma
set_option linter.unusedVariables false

set_option maxRecDepth 100000 in
set_option maxHeartbeats 8000000 in
theorem rshort_a (z : ByteArray) (fr : Nat) (X Y P : Int) (W : World) (hzs : z.size = 12) (hfr : fr ≤ 4611686018427387904) (hX : ((w2 z 4 : Nat) : Int) = X) (hY : ((w2 z 6 : Nat) : Int) = Y) (hP : ((w2 z 8 : Nat) : Int) = P) (D : Int) (hD : ((w2 z 10 : Nat) : Int) = D) (b0 : X ≤ 0) :
    Calls Tryd.prog 30 #[.string z, .int .i64 (fr : Nat)] W fun e w' => e = .returned (.agg (shV fr X Y P D)) ∧ W.grownBy w' none := by
  have KX0 := fun u => le2_is z 4 (by omega) u
  have KY0 := fun u => le2_is z 6 (by omega) u
  have KD0 := fun u => le2_is z 10 (by omega) u
  have KP0 := fun u => le2_is z 8 (by omega) u
  rw [hX] at KX0
  rw [hY] at KY0
  rw [hD] at KD0
  rw [hP] at KP0
  have KX := Lib.hid KX0
  have KY := Lib.hid KY0
  have KD := Lib.hid KD0
  have KP := Lib.hid KP0
  have s1 : ∀ w, (Instr.slice 9 (.string z) (some (.int .i64 4)) (some (.int .i64 6)) none).run Tryd.prog w = .ok (.string (z.extract 4 (4 + 2))) w := fun w => cut_at z 4 2 (by omega) w
  have s2 : ∀ w, (Instr.slice 9 (.string z) (some (.int .i64 6)) (some (.int .i64 8)) none).run Tryd.prog w = .ok (.string (z.extract 6 (6 + 2))) w := fun w => cut_at z 6 2 (by omega) w
  have s3 : ∀ w, (Instr.slice 9 (.string z) (some (.int .i64 10)) (some (.int .i64 12)) none).run Tryd.prog w = .ok (.string (z.extract 10 (10 + 2))) w := fun w => cut_at z 10 2 (by omega) w
  have s4 : ∀ w, (Instr.slice 9 (.string z) (some (.int .i64 8)) (some (.int .i64 10)) none).run Tryd.prog w = .ok (.string (z.extract 8 (8 + 2))) w := fun w => cut_at z 8 2 (by omega) w
  obtain ⟨q, hq⟩ : ∃ q : Int, ((fr + 12 : Nat) : Int) = q := ⟨_, rfl⟩
  have wq : IntKind.i64.wrap ((fr : Int) + 12) = q := by rw [IntWalk.i64_in _ (by omega)]; omega
  have HQ := Lib.hid hq
  clear KX0 KY0 KD0 KP0 hX hY hP hD hq hzs
  go_enter Tryd.func30, Tryd.ntmps30
  go_upto_region 1 with fail
  have hl1 : (W.alloc (.cells #[.int .i64 0, .int .i64 0, .int .i64 0, .bool false, .int .i64 0, .int .i64 0, .int .i64 0, .int .i64 0, .int .i64 0, .int .i64 0, .int .i64 0, .int .i64 0, .int .i64 0, .int .i64 0, .int .i64 0] 37)).heap.size = W.heap.size + 1 := size_alloc _ _
  have R0 := blk_at (w := W) (o := .cells #[.int .i64 0, .int .i64 0, .int .i64 0, .bool false, .int .i64 0, .int .i64 0, .int .i64 0, .int .i64 0, .int .i64 0, .int .i64 0, .int .i64 0, .int .i64 0, .int .i64 0, .int .i64 0, .int .i64 0] 37)
  have G0 := World.grownBy_alloc W (.cells #[.int .i64 0, .int .i64 0, .int .i64 0, .bool false, .int .i64 0, .int .i64 0, .int .i64 0, .int .i64 0, .int .i64 0, .int .i64 0, .int .i64 0, .int .i64 0, .int .i64 0, .int .i64 0, .int .i64 0] 37) none
  generalize W.alloc (.cells #[.int .i64 0, .int .i64 0, .int .i64 0, .bool false, .int .i64 0, .int .i64 0, .int .i64 0, .int .i64 0, .int .i64 0, .int .i64 0, .int .i64 0, .int .i64 0, .int .i64 0, .int .i64 0, .int .i64 0] 37) = w0 at R0 G0 hl1 ⊢
  go_region_held3 (fun _ => True) (trivial)
    (first
      | (go_at_call 29; with_reducible refine (KX.out _).mono ?_; rintro e w' ⟨rfl, rfl⟩)
      | (go_at_call 29; with_reducible refine (KY.out _).mono ?_; rintro e w' ⟨rfl, rfl⟩)
      | (go_at_call 29; with_reducible refine (KD.out _).mono ?_; rintro e w' ⟨rfl, rfl⟩))
  all_goals
    refine abs_w (R := DI W (W.heap.size + 1) #[.int .i64 12, .int .i64 X, .int .i64 Y, .bool false, .int .i64 D, .int .i64 0, .int .i64 0, .int .i64 0, .int .i64 0, .int .i64 0, .int .i64 0, .int .i64 (fr : Nat), .int .i64 q, .int .i64 0, .int .i64 0]) ⟨?_, ?_, ?_, ?_⟩ (fun w5 I => ?_)
    · first | exact blk_al R0 _ | exact (blk_al (w := w0.drew) R0 _)
    · first | (rw [← hl1]; exact blk_at (w := w0)) | (rw [← hl1]; exact blk_at (w := w0.drew))
    · first | exact gb_trans (gb_trans G0 (World.grownBy_alloc w0 _ none)) (gb_drew _ _) | exact gb_trans (gb_trans G0 (gb_drew w0 _)) (World.grownBy_alloc w0.drew _ none)
    · omega
    have HI := Lib.hid I
    have ne1 : W.heap.size ≠ W.heap.size + 1 := by omega
    have ne2 : W.heap.size + 1 ≠ W.heap.size := by omega
    have a0 := blk_cell I.hd 0
    have a1 := blk_cell I.hd 1
    have a2 := blk_cell I.hd 2
    have a3 := blk_cell I.hd 3
    have a4 := blk_cell I.hd 4
    have a5 := blk_cell I.hd 5
    have a6 := blk_cell I.hd 6
    have a7 := blk_cell I.hd 7
    have a8 := blk_cell I.hd 8
    have a9 := blk_cell I.hd 9
    have a10 := blk_cell I.hd 10
    have a11 := blk_cell I.hd 11
    have a12 := blk_cell I.hd 12
    have a13 := blk_cell I.hd 13
    have a14 := blk_cell I.hd 14
    simp only [List.getElem?_toArray, List.getElem?_cons_succ, List.getElem?_cons_zero] at a0 a1 a2 a3 a4 a5 a6 a7 a8 a9 a10 a11 a12 a13 a14
    have hlx := blk_lt I.hd
    clear I
    clear G0 R0 hl1
    have KS0 := fun u => rside_calls X u
    rw [show sdV X = 2 from by unfold sdV; rw [if_pos (by omega)]] at KS0
    have KS := Lib.hid KS0
    clear KS0
    have hE := Lib.hid (show shV fr X Y P D = badA 2 ((fr : Int) + 4) from by unfold shV; rw [if_pos (by omega)])
    clear b0
    go_wp2_with fail
    refine (KS.out _).mono ?_
    rintro e w' ⟨rfl, rfl⟩
    have KB := Lib.hid (fun u => rbad_calls 2 ((fr : Int) + 4) u)
    have hwp : IntKind.i64.wrap ((fr : Int) + 4) = (fr : Int) + 4 := IntWalk.i64_in _ (by omega)
    unfold badA at KB
    go_wp2_with fail
    refine (KS.out _).mono ?_
    rintro e w' ⟨rfl, rfl⟩
    go_wp2_with fail
    refine (KB.out _).mono ?_
    rintro e w9 ⟨rfl, g9⟩
    have B9 := old0 g9 HI.out.res (blk_lt HI.out.res) (by simp)
    have r0 := blk_cell B9 0
    have r1 := blk_cell B9 1
    have r2 := blk_cell B9 2
    have r3 := blk_cell B9 3
    have r4 := blk_cell B9 4
    have r5 := blk_cell B9 5
    have r6 := blk_cell B9 6
    have r7 := blk_cell B9 7
    have r8 := blk_cell B9 8
    have r9 := blk_cell B9 9
    have r10 := blk_cell B9 10
    have r11 := blk_cell B9 11
    have r12 := blk_cell B9 12
    have r13 := blk_cell B9 13
    have r14 := blk_cell B9 14
    have rf0 := blk_free B9 0
    have rf1 := blk_free B9 1
    have rf2 := blk_free B9 2
    have rf3 := blk_free B9 3
    have rf4 := blk_free B9 4
    have rf5 := blk_free B9 5
    have rf6 := blk_free B9 6
    have rf7 := blk_free B9 7
    have rf8 := blk_free B9 8
    have rf9 := blk_free B9 9
    have rf10 := blk_free B9 10
    have rf11 := blk_free B9 11
    have rf12 := blk_free B9 12
    have rf13 := blk_free B9 13
    have rf14 := blk_free B9 14
    simp only [List.getElem?_toArray, List.getElem?_cons_succ, List.getElem?_cons_zero] at r0 r1 r2 r3 r4 r5 r6 r7 r8 r9 r10 r11 r12 r13 r14
    have hlr := blk_lt B9
    have G9 := Lib.hid (gb_trans HI.out.gb g9)
    clear g9 B9 KB
    go_wp2
    refine bodyPost_ret (v := .agg (badA 2 ((fr : Int) + 4))) (by simp only [results, Tryd.results30, badA]; go_simp) rfl ⟨by rw [hE.out], ?_⟩
    exact gb_own (gb_own (gb_own (gb_own (gb_own (gb_own (gb_own (gb_own (gb_own (gb_own (gb_own (gb_own (gb_own (gb_own (gb_own (G9.out) (Nat.le_refl _) (gb_set _ _ _ _)) (Nat.le_refl _) (gb_set _ _ _ _)) (Nat.le_refl _) (gb_set _ _ _ _)) (Nat.le_refl _) (gb_set _ _ _ _)) (Nat.le_refl _) (gb_set _ _ _ _)) (Nat.le_refl _) (gb_set _ _ _ _)) (Nat.le_refl _) (gb_set _ _ _ _)) (Nat.le_refl _) (gb_set _ _ _ _)) (Nat.le_refl _) (gb_set _ _ _ _)) (Nat.le_refl _) (gb_set _ _ _ _)) (Nat.le_refl _) (gb_set _ _ _ _)) (Nat.le_refl _) (gb_set _ _ _ _)) (Nat.le_refl _) (gb_set _ _ _ _)) (Nat.le_refl _) (gb_set _ _ _ _)) (Nat.le_refl _) (gb_set _ _ _ _)

end Go.Proofs.YtikjfmpdfeaooaaDoor.Dh
