/- Texts of one kind, one behind the other: DiMng, DiMnb, DiD1. -/
import Derived.Test.YtikjfmpdfeaooaaDoorG18
import Derived.Test.YtikjfmpdfeaooaaDoorG21
/- The document's masks of a long head, where they are told (n, good; written by wip/gen/di6.py). -/
namespace Go.Proofs.YtikjfmpdfeaooaaDoor.Dh
open Go.ChangeShapes Go.WideShapes Go.ChangeAt Go.RowKit
open Go.Proofs.YtikjfmpdfeaooaaDoor.Le Go.Proofs.YtikjfmpdfeaooaaDoor.Sr Go.Proofs.YtikjfmpdfeaooaaDoor.Ma
set_option linter.unusedVariables false

set_option maxRecDepth 100000 in
set_option maxHeartbeats 8000000 in
theorem rmasks_n_good (s : ByteArray) (S : Int) (hS : 56 ≤ S) (X fY D C : Int) (T : Bool) (fr to : Nat) (q : Int) (W : World) (hfr : fr ≤ 4611686018427387904) (hs : fr + 56 ≤ s.size) (hq : q ≤ to) (hqt : q ≤ to) (m0 m1 m2 m3 : Int) (e0 : ((w4 s (fr + 40) : Nat) : Int) = m0) (e1 : ((w4 s (fr + 44) : Nat) : Int) = m1) (e2 : ((w4 s (fr + 48) : Nat) : Int) = m2) (e3 : ((w4 s (fr + 52) : Nat) : Int) = m3) (res : Array Value) (KF : FourIs (fun k => if k = 0 then m0 else if k = 1 then m1 else if k = 2 then m2 else m3) D res 0 0) :
    Calls Tryd.prog 35 #[.string s, .agg #[.int .i64 S, .int .i64 X, .int .i64 fY, .bool T, .int .i64 D, .int .i64 3, .int .i64 C, .int .i64 0, .int .i64 0, .int .i64 0, .int .i64 0, .int .i64 (fr : Nat), .int .i64 q, .int .i64 0, .int .i64 0], .int .i64 (to : Nat)] W fun e w' => e = .returned (.agg #[.int .i64 S, .int .i64 X, .int .i64 fY, .bool T, .int .i64 D, .int .i64 3, .int .i64 C, .int .i64 m0, .int .i64 m1, .int .i64 m2, .int .i64 m3, .int .i64 (fr : Nat), .int .i64 q, .int .i64 0, .int .i64 0]) ∧ W.grownBy w' none := by
  have w40 : IntKind.i64.wrap ((fr : Int) + 40) = (fr : Int) + 40 := IntWalk.i64_in _ (by omega)
  obtain ⟨a, ha⟩ : ∃ a : Nat, fr + 40 = a := ⟨_, rfl⟩
  have haI : (fr : Int) + 40 = (a : Int) := by omega
  rw [haI] at w40
  have K0 := fun u => le4_is s a (by omega) u
  have K1 := fun u => le4_is s (a + 4) (by omega) u
  have K2 := fun u => le4_is s (a + 8) (by omega) u
  rw [show fr + 40 = a from ha] at e0
  rw [show fr + 44 = a + 4 from by omega] at e1
  rw [show fr + 48 = a + 8 from by omega] at e2
  simp only [e0] at K0
  simp only [e1] at K1
  simp only [e2] at K2
  have K0 := Lib.hid K0
  have K1 := Lib.hid K1
  have K2 := Lib.hid K2
  have K3 := fun u => le4_is s (a + 12) (by omega) u
  rw [show fr + 52 = a + 12 from by omega] at e3
  simp only [e3] at K3
  have K3 := Lib.hid K3
  have hS56 : (56 : Int) ≤ S := hS
  have hS40 : (S == 40) = false := by rw [beq_eq_false_iff_ne]; omega
  obtain ⟨b4, hb4⟩ : ∃ z : Int, ((a + 4 : Nat) : Int) = z := ⟨_, rfl⟩
  have wa4 : IntKind.i64.wrap ((a : Int) + 4) = b4 := by rw [IntWalk.i64_in _ (by omega)]; omega
  obtain ⟨b8, hb8⟩ : ∃ z : Int, ((a + 8 : Nat) : Int) = z := ⟨_, rfl⟩
  have wa8 : IntKind.i64.wrap ((a : Int) + 8) = b8 := by rw [IntWalk.i64_in _ (by omega)]; omega
  obtain ⟨b12, hb12⟩ : ∃ z : Int, ((a + 12 : Nat) : Int) = z := ⟨_, rfl⟩
  have wa12 : IntKind.i64.wrap ((a : Int) + 12) = b12 := by rw [IntWalk.i64_in _ (by omega)]; omega
  obtain ⟨b16, hb16⟩ : ∃ z : Int, ((a + 16 : Nat) : Int) = z := ⟨_, rfl⟩
  have wa16 : IntKind.i64.wrap ((a : Int) + 16) = b16 := by rw [IntWalk.i64_in _ (by omega)]; omega
  have S0 : ∀ w, (Instr.slice 9 (.string s) (some (.int .i64 (a : Nat))) (some (.int .i64 b4)) none).run Tryd.prog w = .ok (.string (s.extract a (a + 4))) w := fun w => by rw [← hb4]; exact cut_at s a 4 (by omega) w
  have S1 : ∀ w, (Instr.slice 9 (.string s) (some (.int .i64 b4)) (some (.int .i64 b8)) none).run Tryd.prog w = .ok (.string (s.extract (a + 4) ((a + 4) + 4))) w := fun w => by rw [← hb4, ← hb8, show ((a + 8 : Nat) : Int) = (((a + 4) + 4 : Nat) : Int) from by omega]; exact cut_at s (a + 4) 4 (by omega) w
  have S2 : ∀ w, (Instr.slice 9 (.string s) (some (.int .i64 b8)) (some (.int .i64 b12)) none).run Tryd.prog w = .ok (.string (s.extract (a + 8) ((a + 8) + 4))) w := fun w => by rw [← hb8, ← hb12, show ((a + 12 : Nat) : Int) = (((a + 8) + 4 : Nat) : Int) from by omega]; exact cut_at s (a + 8) 4 (by omega) w
  have S3 : ∀ w, (Instr.slice 9 (.string s) (some (.int .i64 b12)) (some (.int .i64 b16)) none).run Tryd.prog w = .ok (.string (s.extract (a + 12) ((a + 12) + 4))) w := fun w => by rw [← hb12, ← hb16, show ((a + 16 : Nat) : Int) = (((a + 12) + 4 : Nat) : Int) from by omega]; exact cut_at s (a + 12) 4 (by omega) w
  have hgt : ¬ (to : Int) < q := by omega
  have KF2 := Lib.hid KF.2
  clear KF e0 e1 e2 e3 hfr hs hq hqt hb4 hb8 hb12 hb16 ha hS
  go_enter Tryd.func35, Tryd.ntmps35
  go_upto_region 1 with fail
  have I0 : DJ W #[.int .i64 S, .int .i64 X, .int .i64 fY, .bool T, .int .i64 D, .int .i64 3, .int .i64 C, .int .i64 0, .int .i64 0, .int .i64 0, .int .i64 0, .int .i64 (fr : Nat), .int .i64 q, .int .i64 0, .int .i64 0] _ := DJ.new
  have n1 : ¬ W.heap.size = W.heap.size + 1 := by omega
  have n2 : ¬ W.heap.size + 1 = W.heap.size := by omega
  generalize ((W.alloc (.cells #[.int .i64 S, .int .i64 X, .int .i64 fY, .bool T, .int .i64 D, .int .i64 3, .int .i64 C, .int .i64 0, .int .i64 0, .int .i64 0, .int .i64 0, .int .i64 (fr : Nat), .int .i64 q, .int .i64 0, .int .i64 0] 37)).alloc (.cells #[.int .i64 0, .int .i64 0, .int .i64 0, .bool false, .int .i64 0, .int .i64 0, .int .i64 0, .int .i64 0, .int .i64 0, .int .i64 0, .int .i64 0, .int .i64 0, .int .i64 0, .int .i64 0, .int .i64 0] 37)) = w0 at I0 ⊢
  have hs0 : W.heap.size + 1 < w0.heap.size := blk_lt I0.res
  have a0 := blk_cell I0.hd 0
  have a1 := blk_cell I0.hd 1
  have a2 := blk_cell I0.hd 2
  have a3 := blk_cell I0.hd 3
  have a4 := blk_cell I0.hd 4
  have a5 := blk_cell I0.hd 5
  have a6 := blk_cell I0.hd 6
  have a7 := blk_cell I0.hd 7
  have a8 := blk_cell I0.hd 8
  have a9 := blk_cell I0.hd 9
  have a10 := blk_cell I0.hd 10
  have a11 := blk_cell I0.hd 11
  have a12 := blk_cell I0.hd 12
  have a13 := blk_cell I0.hd 13
  have a14 := blk_cell I0.hd 14
  have f0 := blk_free I0.hd 0
  have f1 := blk_free I0.hd 1
  have f2 := blk_free I0.hd 2
  have f3 := blk_free I0.hd 3
  have f4 := blk_free I0.hd 4
  have f5 := blk_free I0.hd 5
  have f6 := blk_free I0.hd 6
  have f7 := blk_free I0.hd 7
  have f8 := blk_free I0.hd 8
  have f9 := blk_free I0.hd 9
  have f10 := blk_free I0.hd 10
  have f11 := blk_free I0.hd 11
  have f12 := blk_free I0.hd 12
  have f13 := blk_free I0.hd 13
  have f14 := blk_free I0.hd 14
  simp only [List.getElem?_toArray, List.getElem?_cons_succ, List.getElem?_cons_zero] at a0 a1 a2 a3 a4 a5 a6 a7 a8 a9 a10 a11 a12 a13 a14
  have r0 := blk_cell I0.res 0
  have r1 := blk_cell I0.res 1
  have r2 := blk_cell I0.res 2
  have r3 := blk_cell I0.res 3
  have r4 := blk_cell I0.res 4
  have r5 := blk_cell I0.res 5
  have r6 := blk_cell I0.res 6
  have r7 := blk_cell I0.res 7
  have r8 := blk_cell I0.res 8
  have r9 := blk_cell I0.res 9
  have r10 := blk_cell I0.res 10
  have r11 := blk_cell I0.res 11
  have r12 := blk_cell I0.res 12
  have r13 := blk_cell I0.res 13
  have r14 := blk_cell I0.res 14
  have g0 := blk_free I0.res 0
  have g1 := blk_free I0.res 1
  have g2 := blk_free I0.res 2
  have g3 := blk_free I0.res 3
  have g4 := blk_free I0.res 4
  have g5 := blk_free I0.res 5
  have g6 := blk_free I0.res 6
  have g7 := blk_free I0.res 7
  have g8 := blk_free I0.res 8
  have g9 := blk_free I0.res 9
  have g10 := blk_free I0.res 10
  have g11 := blk_free I0.res 11
  have g12 := blk_free I0.res 12
  have g13 := blk_free I0.res 13
  have g14 := blk_free I0.res 14
  simp only [List.getElem?_toArray, List.getElem?_cons_succ, List.getElem?_cons_zero] at r0 r1 r2 r3 r4 r5 r6 r7 r8 r9 r10 r11 r12 r13 r14
  have l0 := blk_lt I0.hd
  have l1 := blk_lt I0.res
  have HI0 := Lib.hid I0
  clear I0
  go_upto_region 12 with fail
  go_region_held3 (fun _ => True) (trivial)
    (first
      | (go_at_call 29; with_reducible refine (K0.out _).mono ?_; rintro e w' ⟨rfl, rfl⟩)
      | (go_at_call 29; with_reducible refine (K1.out _).mono ?_; rintro e w' ⟨rfl, rfl⟩)
      | (go_at_call 29; with_reducible refine (K2.out _).mono ?_; rintro e w' ⟨rfl, rfl⟩))
  all_goals
    obtain ⟨lb, hlb⟩ : ∃ k, w0.heap.size = k := ⟨_, rfl⟩
    rw [hlb] at hs0 ⊢
    refine abs_w (R := DK W lb #[.int .i64 S, .int .i64 X, .int .i64 fY, .bool T, .int .i64 D, .int .i64 3, .int .i64 C, .int .i64 0, .int .i64 0, .int .i64 0, .int .i64 0, .int .i64 (fr : Nat), .int .i64 q, .int .i64 0, .int .i64 0] #[.int .i64 m0, .int .i64 m1, .int .i64 m2, .int .i64 0]) ⟨⟨?_, ?_, ?_⟩, ?_, hs0⟩ (fun u2 I2 => ?_)
    · first | exact blk_al HI0.out.hd _ | exact blk_al (w := w0.drew) HI0.out.hd _
    · first | exact blk_al HI0.out.res _ | exact blk_al (w := w0.drew) HI0.out.res _
    · first | exact gb_trans (gb_trans HI0.out.gb (World.grownBy_alloc w0 _ none)) (gb_drew _ _) | exact gb_trans (gb_trans HI0.out.gb (gb_drew w0 _)) (World.grownBy_alloc w0.drew _ none)
    · first | (rw [← hlb]; exact blk_at (w := w0)) | (rw [← hlb]; exact blk_at (w := w0.drew))
    clear a0 f0 r0 g0 a1 f1 r1 g1 a2 f2 r2 g2 a3 f3 r3 g3 a4 f4 r4 g4 a5 f5 r5 g5 a6 f6 r6 g6 a7 f7 r7 g7 a8 f8 r8 g8 a9 f9 r9 g9 a10 f10 r10 g10 a11 f11 r11 g11 a12 f12 r12 g12 a13 f13 r13 g13 a14 f14 r14 g14 l0 l1
    have a0 := blk_cell I2.dj.hd 0
    have a1 := blk_cell I2.dj.hd 1
    have a2 := blk_cell I2.dj.hd 2
    have a3 := blk_cell I2.dj.hd 3
    have a4 := blk_cell I2.dj.hd 4
    have a5 := blk_cell I2.dj.hd 5
    have a6 := blk_cell I2.dj.hd 6
    have a7 := blk_cell I2.dj.hd 7
    have a8 := blk_cell I2.dj.hd 8
    have a9 := blk_cell I2.dj.hd 9
    have a10 := blk_cell I2.dj.hd 10
    have a11 := blk_cell I2.dj.hd 11
    have a12 := blk_cell I2.dj.hd 12
    have a13 := blk_cell I2.dj.hd 13
    have a14 := blk_cell I2.dj.hd 14
    have f0 := blk_free I2.dj.hd 0
    have f1 := blk_free I2.dj.hd 1
    have f2 := blk_free I2.dj.hd 2
    have f3 := blk_free I2.dj.hd 3
    have f4 := blk_free I2.dj.hd 4
    have f5 := blk_free I2.dj.hd 5
    have f6 := blk_free I2.dj.hd 6
    have f7 := blk_free I2.dj.hd 7
    have f8 := blk_free I2.dj.hd 8
    have f9 := blk_free I2.dj.hd 9
    have f10 := blk_free I2.dj.hd 10
    have f11 := blk_free I2.dj.hd 11
    have f12 := blk_free I2.dj.hd 12
    have f13 := blk_free I2.dj.hd 13
    have f14 := blk_free I2.dj.hd 14
    simp only [List.getElem?_toArray, List.getElem?_cons_succ, List.getElem?_cons_zero] at a0 a1 a2 a3 a4 a5 a6 a7 a8 a9 a10 a11 a12 a13 a14
    have r0 := blk_cell I2.dj.res 0
    have r1 := blk_cell I2.dj.res 1
    have r2 := blk_cell I2.dj.res 2
    have r3 := blk_cell I2.dj.res 3
    have r4 := blk_cell I2.dj.res 4
    have r5 := blk_cell I2.dj.res 5
    have r6 := blk_cell I2.dj.res 6
    have r7 := blk_cell I2.dj.res 7
    have r8 := blk_cell I2.dj.res 8
    have r9 := blk_cell I2.dj.res 9
    have r10 := blk_cell I2.dj.res 10
    have r11 := blk_cell I2.dj.res 11
    have r12 := blk_cell I2.dj.res 12
    have r13 := blk_cell I2.dj.res 13
    have r14 := blk_cell I2.dj.res 14
    have g0 := blk_free I2.dj.res 0
    have g1 := blk_free I2.dj.res 1
    have g2 := blk_free I2.dj.res 2
    have g3 := blk_free I2.dj.res 3
    have g4 := blk_free I2.dj.res 4
    have g5 := blk_free I2.dj.res 5
    have g6 := blk_free I2.dj.res 6
    have g7 := blk_free I2.dj.res 7
    have g8 := blk_free I2.dj.res 8
    have g9 := blk_free I2.dj.res 9
    have g10 := blk_free I2.dj.res 10
    have g11 := blk_free I2.dj.res 11
    have g12 := blk_free I2.dj.res 12
    have g13 := blk_free I2.dj.res 13
    have g14 := blk_free I2.dj.res 14
    simp only [List.getElem?_toArray, List.getElem?_cons_succ, List.getElem?_cons_zero] at r0 r1 r2 r3 r4 r5 r6 r7 r8 r9 r10 r11 r12 r13 r14
    have l0 := blk_lt I2.dj.hd
    have l1 := blk_lt I2.dj.res
    have v0 := blk_cell I2.l 0
    have v1 := blk_cell I2.l 1
    have v2 := blk_cell I2.l 2
    have v3 := blk_cell I2.l 3
    have vf0 := blk_free I2.l 0
    have vf1 := blk_free I2.l 1
    have vf2 := blk_free I2.l 2
    have vf3 := blk_free I2.l 3
    simp only [List.getElem?_toArray, List.getElem?_cons_succ, List.getElem?_cons_zero] at v0 v1 v2 v3
    have l2 := blk_lt I2.l
    have HI2 := Lib.hid I2
    clear I2
    go_wp2_with fail
    refine (K3.out _).mono ?_
    rintro e w' ⟨rfl, rfl⟩
    go_upto_region 15 with fail
    refine abs_w (R := DK W lb #[.int .i64 S, .int .i64 X, .int .i64 fY, .bool T, .int .i64 D, .int .i64 3, .int .i64 C, .int .i64 0, .int .i64 0, .int .i64 0, .int .i64 0, .int .i64 (fr : Nat), .int .i64 q, .int .i64 0, .int .i64 0] #[.int .i64 m0, .int .i64 m1, .int .i64 m2, .int .i64 m3]) ?_ (fun u3 I3 => ?_)
    · exact HI2.out.lset 3 _
    clear a0 f0 r0 g0 a1 f1 r1 g1 a2 f2 r2 g2 a3 f3 r3 g3 a4 f4 r4 g4 a5 f5 r5 g5 a6 f6 r6 g6 a7 f7 r7 g7 a8 f8 r8 g8 a9 f9 r9 g9 a10 f10 r10 g10 a11 f11 r11 g11 a12 f12 r12 g12 a13 f13 r13 g13 a14 f14 r14 g14 v0 vf0 v1 vf1 v2 vf2 v3 vf3 l0 l1 l2
    clear HI2
    have a0 := blk_cell I3.dj.hd 0
    have a1 := blk_cell I3.dj.hd 1
    have a2 := blk_cell I3.dj.hd 2
    have a3 := blk_cell I3.dj.hd 3
    have a4 := blk_cell I3.dj.hd 4
    have a5 := blk_cell I3.dj.hd 5
    have a6 := blk_cell I3.dj.hd 6
    have a7 := blk_cell I3.dj.hd 7
    have a8 := blk_cell I3.dj.hd 8
    have a9 := blk_cell I3.dj.hd 9
    have a10 := blk_cell I3.dj.hd 10
    have a11 := blk_cell I3.dj.hd 11
    have a12 := blk_cell I3.dj.hd 12
    have a13 := blk_cell I3.dj.hd 13
    have a14 := blk_cell I3.dj.hd 14
    have f0 := blk_free I3.dj.hd 0
    have f1 := blk_free I3.dj.hd 1
    have f2 := blk_free I3.dj.hd 2
    have f3 := blk_free I3.dj.hd 3
    have f4 := blk_free I3.dj.hd 4
    have f5 := blk_free I3.dj.hd 5
    have f6 := blk_free I3.dj.hd 6
    have f7 := blk_free I3.dj.hd 7
    have f8 := blk_free I3.dj.hd 8
    have f9 := blk_free I3.dj.hd 9
    have f10 := blk_free I3.dj.hd 10
    have f11 := blk_free I3.dj.hd 11
    have f12 := blk_free I3.dj.hd 12
    have f13 := blk_free I3.dj.hd 13
    have f14 := blk_free I3.dj.hd 14
    simp only [List.getElem?_toArray, List.getElem?_cons_succ, List.getElem?_cons_zero] at a0 a1 a2 a3 a4 a5 a6 a7 a8 a9 a10 a11 a12 a13 a14
    have r0 := blk_cell I3.dj.res 0
    have r1 := blk_cell I3.dj.res 1
    have r2 := blk_cell I3.dj.res 2
    have r3 := blk_cell I3.dj.res 3
    have r4 := blk_cell I3.dj.res 4
    have r5 := blk_cell I3.dj.res 5
    have r6 := blk_cell I3.dj.res 6
    have r7 := blk_cell I3.dj.res 7
    have r8 := blk_cell I3.dj.res 8
    have r9 := blk_cell I3.dj.res 9
    have r10 := blk_cell I3.dj.res 10
    have r11 := blk_cell I3.dj.res 11
    have r12 := blk_cell I3.dj.res 12
    have r13 := blk_cell I3.dj.res 13
    have r14 := blk_cell I3.dj.res 14
    have g0 := blk_free I3.dj.res 0
    have g1 := blk_free I3.dj.res 1
    have g2 := blk_free I3.dj.res 2
    have g3 := blk_free I3.dj.res 3
    have g4 := blk_free I3.dj.res 4
    have g5 := blk_free I3.dj.res 5
    have g6 := blk_free I3.dj.res 6
    have g7 := blk_free I3.dj.res 7
    have g8 := blk_free I3.dj.res 8
    have g9 := blk_free I3.dj.res 9
    have g10 := blk_free I3.dj.res 10
    have g11 := blk_free I3.dj.res 11
    have g12 := blk_free I3.dj.res 12
    have g13 := blk_free I3.dj.res 13
    have g14 := blk_free I3.dj.res 14
    simp only [List.getElem?_toArray, List.getElem?_cons_succ, List.getElem?_cons_zero] at r0 r1 r2 r3 r4 r5 r6 r7 r8 r9 r10 r11 r12 r13 r14
    have l0 := blk_lt I3.dj.hd
    have l1 := blk_lt I3.dj.res
    have v0 := blk_cell I3.l 0
    have v1 := blk_cell I3.l 1
    have v2 := blk_cell I3.l 2
    have v3 := blk_cell I3.l 3
    have vf0 := blk_free I3.l 0
    have vf1 := blk_free I3.l 1
    have vf2 := blk_free I3.l 2
    have vf3 := blk_free I3.l 3
    simp only [List.getElem?_toArray, List.getElem?_cons_succ, List.getElem?_cons_zero] at v0 v1 v2 v3
    have l2 := blk_lt I3.l
    have HI3 := Lib.hid I3
    clear I3
    have hc4 : ∀ (u : World), u.cell? ⟨lb, 0, none⟩ = some (.int .i64 m0) → u.cell? ⟨lb, 1, none⟩ = some (.int .i64 m1) → u.cell? ⟨lb, 2, none⟩ = some (.int .i64 m2) → u.cell? ⟨lb, 3, none⟩ = some (.int .i64 m3) → ∀ k, k < 4 → u.cell? ⟨lb, k, none⟩ = some (.int .i64 ((fun k => if k = 0 then m0 else if k = 1 then m1 else if k = 2 then m2 else m3) k)) := by
      intro u h0 h1 h2 h3 k hk
      obtain rfl | rfl | rfl | rfl : k = 0 ∨ k = 1 ∨ k = 2 ∨ k = 3 := by omega
      · exact h0
      · exact h1
      · exact h2
      · exact h3
    have HC4 := Lib.hid hc4
    clear hc4
    go_wp2_with fail
    refine (KF2.out lb _ (HC4.out _ v0 v1 v2 v3)).mono ?_
    rintro e u5 ⟨rfl, g5⟩
    have I5 := HI3.out.grown g5
    clear g5 HI3 HC4
    clear a0 f0 r0 g0 a1 f1 r1 g1 a2 f2 r2 g2 a3 f3 r3 g3 a4 f4 r4 g4 a5 f5 r5 g5 a6 f6 r6 g6 a7 f7 r7 g7 a8 f8 r8 g8 a9 f9 r9 g9 a10 f10 r10 g10 a11 f11 r11 g11 a12 f12 r12 g12 a13 f13 r13 g13 a14 f14 r14 g14 v0 vf0 v1 vf1 v2 vf2 v3 vf3 l0 l1 l2
    have a0 := blk_cell I5.dj.hd 0
    have a1 := blk_cell I5.dj.hd 1
    have a2 := blk_cell I5.dj.hd 2
    have a3 := blk_cell I5.dj.hd 3
    have a4 := blk_cell I5.dj.hd 4
    have a5 := blk_cell I5.dj.hd 5
    have a6 := blk_cell I5.dj.hd 6
    have a7 := blk_cell I5.dj.hd 7
    have a8 := blk_cell I5.dj.hd 8
    have a9 := blk_cell I5.dj.hd 9
    have a10 := blk_cell I5.dj.hd 10
    have a11 := blk_cell I5.dj.hd 11
    have a12 := blk_cell I5.dj.hd 12
    have a13 := blk_cell I5.dj.hd 13
    have a14 := blk_cell I5.dj.hd 14
    have f0 := blk_free I5.dj.hd 0
    have f1 := blk_free I5.dj.hd 1
    have f2 := blk_free I5.dj.hd 2
    have f3 := blk_free I5.dj.hd 3
    have f4 := blk_free I5.dj.hd 4
    have f5 := blk_free I5.dj.hd 5
    have f6 := blk_free I5.dj.hd 6
    have f7 := blk_free I5.dj.hd 7
    have f8 := blk_free I5.dj.hd 8
    have f9 := blk_free I5.dj.hd 9
    have f10 := blk_free I5.dj.hd 10
    have f11 := blk_free I5.dj.hd 11
    have f12 := blk_free I5.dj.hd 12
    have f13 := blk_free I5.dj.hd 13
    have f14 := blk_free I5.dj.hd 14
    simp only [List.getElem?_toArray, List.getElem?_cons_succ, List.getElem?_cons_zero] at a0 a1 a2 a3 a4 a5 a6 a7 a8 a9 a10 a11 a12 a13 a14
    have r0 := blk_cell I5.dj.res 0
    have r1 := blk_cell I5.dj.res 1
    have r2 := blk_cell I5.dj.res 2
    have r3 := blk_cell I5.dj.res 3
    have r4 := blk_cell I5.dj.res 4
    have r5 := blk_cell I5.dj.res 5
    have r6 := blk_cell I5.dj.res 6
    have r7 := blk_cell I5.dj.res 7
    have r8 := blk_cell I5.dj.res 8
    have r9 := blk_cell I5.dj.res 9
    have r10 := blk_cell I5.dj.res 10
    have r11 := blk_cell I5.dj.res 11
    have r12 := blk_cell I5.dj.res 12
    have r13 := blk_cell I5.dj.res 13
    have r14 := blk_cell I5.dj.res 14
    have g0 := blk_free I5.dj.res 0
    have g1 := blk_free I5.dj.res 1
    have g2 := blk_free I5.dj.res 2
    have g3 := blk_free I5.dj.res 3
    have g4 := blk_free I5.dj.res 4
    have g5 := blk_free I5.dj.res 5
    have g6 := blk_free I5.dj.res 6
    have g7 := blk_free I5.dj.res 7
    have g8 := blk_free I5.dj.res 8
    have g9 := blk_free I5.dj.res 9
    have g10 := blk_free I5.dj.res 10
    have g11 := blk_free I5.dj.res 11
    have g12 := blk_free I5.dj.res 12
    have g13 := blk_free I5.dj.res 13
    have g14 := blk_free I5.dj.res 14
    simp only [List.getElem?_toArray, List.getElem?_cons_succ, List.getElem?_cons_zero] at r0 r1 r2 r3 r4 r5 r6 r7 r8 r9 r10 r11 r12 r13 r14
    have l0 := blk_lt I5.dj.hd
    have l1 := blk_lt I5.dj.res
    have v0 := blk_cell I5.l 0
    have v1 := blk_cell I5.l 1
    have v2 := blk_cell I5.l 2
    have v3 := blk_cell I5.l 3
    have vf0 := blk_free I5.l 0
    have vf1 := blk_free I5.l 1
    have vf2 := blk_free I5.l 2
    have vf3 := blk_free I5.l 3
    simp only [List.getElem?_toArray, List.getElem?_cons_succ, List.getElem?_cons_zero] at v0 v1 v2 v3
    have l2 := blk_lt I5.l
    have HI5 := Lib.hid I5
    clear I5
    have n3 : ¬ lb = W.heap.size := by have := HI5.out.lt; omega
    have n4 : ¬ W.heap.size = lb := by have := HI5.out.lt; omega
    have n5 : ¬ lb = W.heap.size + 1 := by have := HI5.out.lt; omega
    go_upto_region 18 with fail
    go_region
    refine abs_w (R := DJ W #[.int .i64 S, .int .i64 X, .int .i64 fY, .bool T, .int .i64 D, .int .i64 3, .int .i64 C, .int .i64 m0, .int .i64 m1, .int .i64 m2, .int .i64 m3, .int .i64 (fr : Nat), .int .i64 q, .int .i64 0, .int .i64 0]) ?_ (fun u7 I7 => ?_)
    · first
        | exact DJ.as ((((HI5.out.dj.set 7 _).set 8 _).set 9 _).set 10 _) rfl
        | exact (DJ.as ((((HI5.out.dj.set 7 _).set 8 _).set 9 _).set 10 _) rfl).grown (gb_drew _ _)
        | exact DJ.as (((((HI5.out.dj.grown (gb_drew _ _)).set 7 _).set 8 _).set 9 _).set 10 _) rfl
    clear a0 f0 r0 g0 a1 f1 r1 g1 a2 f2 r2 g2 a3 f3 r3 g3 a4 f4 r4 g4 a5 f5 r5 g5 a6 f6 r6 g6 a7 f7 r7 g7 a8 f8 r8 g8 a9 f9 r9 g9 a10 f10 r10 g10 a11 f11 r11 g11 a12 f12 r12 g12 a13 f13 r13 g13 a14 f14 r14 g14 v0 vf0 v1 vf1 v2 vf2 v3 vf3 l0 l1 l2
    clear HI5 n3 n4 n5
    have a0 := blk_cell I7.hd 0
    have a1 := blk_cell I7.hd 1
    have a2 := blk_cell I7.hd 2
    have a3 := blk_cell I7.hd 3
    have a4 := blk_cell I7.hd 4
    have a5 := blk_cell I7.hd 5
    have a6 := blk_cell I7.hd 6
    have a7 := blk_cell I7.hd 7
    have a8 := blk_cell I7.hd 8
    have a9 := blk_cell I7.hd 9
    have a10 := blk_cell I7.hd 10
    have a11 := blk_cell I7.hd 11
    have a12 := blk_cell I7.hd 12
    have a13 := blk_cell I7.hd 13
    have a14 := blk_cell I7.hd 14
    have f0 := blk_free I7.hd 0
    have f1 := blk_free I7.hd 1
    have f2 := blk_free I7.hd 2
    have f3 := blk_free I7.hd 3
    have f4 := blk_free I7.hd 4
    have f5 := blk_free I7.hd 5
    have f6 := blk_free I7.hd 6
    have f7 := blk_free I7.hd 7
    have f8 := blk_free I7.hd 8
    have f9 := blk_free I7.hd 9
    have f10 := blk_free I7.hd 10
    have f11 := blk_free I7.hd 11
    have f12 := blk_free I7.hd 12
    have f13 := blk_free I7.hd 13
    have f14 := blk_free I7.hd 14
    simp only [List.getElem?_toArray, List.getElem?_cons_succ, List.getElem?_cons_zero] at a0 a1 a2 a3 a4 a5 a6 a7 a8 a9 a10 a11 a12 a13 a14
    have r0 := blk_cell I7.res 0
    have r1 := blk_cell I7.res 1
    have r2 := blk_cell I7.res 2
    have r3 := blk_cell I7.res 3
    have r4 := blk_cell I7.res 4
    have r5 := blk_cell I7.res 5
    have r6 := blk_cell I7.res 6
    have r7 := blk_cell I7.res 7
    have r8 := blk_cell I7.res 8
    have r9 := blk_cell I7.res 9
    have r10 := blk_cell I7.res 10
    have r11 := blk_cell I7.res 11
    have r12 := blk_cell I7.res 12
    have r13 := blk_cell I7.res 13
    have r14 := blk_cell I7.res 14
    have g0 := blk_free I7.res 0
    have g1 := blk_free I7.res 1
    have g2 := blk_free I7.res 2
    have g3 := blk_free I7.res 3
    have g4 := blk_free I7.res 4
    have g5 := blk_free I7.res 5
    have g6 := blk_free I7.res 6
    have g7 := blk_free I7.res 7
    have g8 := blk_free I7.res 8
    have g9 := blk_free I7.res 9
    have g10 := blk_free I7.res 10
    have g11 := blk_free I7.res 11
    have g12 := blk_free I7.res 12
    have g13 := blk_free I7.res 13
    have g14 := blk_free I7.res 14
    simp only [List.getElem?_toArray, List.getElem?_cons_succ, List.getElem?_cons_zero] at r0 r1 r2 r3 r4 r5 r6 r7 r8 r9 r10 r11 r12 r13 r14
    have l0 := blk_lt I7.hd
    have l1 := blk_lt I7.res
    have HI7 := Lib.hid I7
    clear I7
    go_wp2
    refine bodyPost_ret (v := .agg #[.int .i64 S, .int .i64 X, .int .i64 fY, .bool T, .int .i64 D, .int .i64 3, .int .i64 C, .int .i64 m0, .int .i64 m1, .int .i64 m2, .int .i64 m3, .int .i64 (fr : Nat), .int .i64 q, .int .i64 0, .int .i64 0]) (by simp only [results, Tryd.results35]; go_simp) rfl ⟨rfl, ?_⟩
    exact gb_own (gb_own (gb_own (gb_own (gb_own (gb_own (gb_own (gb_own (gb_own (gb_own (gb_own (gb_own (gb_own (gb_own (gb_own (HI7.out.gb) (Nat.le_succ _) (gb_set _ _ _ _)) (Nat.le_succ _) (gb_set _ _ _ _)) (Nat.le_succ _) (gb_set _ _ _ _)) (Nat.le_succ _) (gb_set _ _ _ _)) (Nat.le_succ _) (gb_set _ _ _ _)) (Nat.le_succ _) (gb_set _ _ _ _)) (Nat.le_succ _) (gb_set _ _ _ _)) (Nat.le_succ _) (gb_set _ _ _ _)) (Nat.le_succ _) (gb_set _ _ _ _)) (Nat.le_succ _) (gb_set _ _ _ _)) (Nat.le_succ _) (gb_set _ _ _ _)) (Nat.le_succ _) (gb_set _ _ _ _)) (Nat.le_succ _) (gb_set _ _ _ _)) (Nat.le_succ _) (gb_set _ _ _ _)) (Nat.le_succ _) (gb_set _ _ _ _)

end Go.Proofs.YtikjfmpdfeaooaaDoor.Dh

/- The document's masks of a long head, where they are told (n, bad; written by wip/gen/di6.py). -/
namespace Go.Proofs.YtikjfmpdfeaooaaDoor.Dh
open Go.ChangeShapes Go.WideShapes Go.ChangeAt Go.RowKit
open Go.Proofs.YtikjfmpdfeaooaaDoor.Le Go.Proofs.YtikjfmpdfeaooaaDoor.Sr Go.Proofs.YtikjfmpdfeaooaaDoor.Ma
set_option linter.unusedVariables false

set_option maxRecDepth 100000 in
set_option maxHeartbeats 8000000 in
theorem rmasks_n_bad (s : ByteArray) (S : Int) (hS : 56 ≤ S) (X fY D C : Int) (T : Bool) (fr to : Nat) (q : Int) (W : World) (hfr : fr ≤ 4611686018427387904) (hs : fr + 56 ≤ s.size) (hq : q ≤ to) (hqt : q ≤ to) (t : Nat) (c : Int) (ht : t < 4) (hc : (c != 0) = true) (m0 m1 m2 m3 : Int) (e0 : ((w4 s (fr + 40) : Nat) : Int) = m0) (e1 : ((w4 s (fr + 44) : Nat) : Int) = m1) (e2 : ((w4 s (fr + 48) : Nat) : Int) = m2) (e3 : ((w4 s (fr + 52) : Nat) : Int) = m3) (KF : FourIs (fun k => if k = 0 then m0 else if k = 1 then m1 else if k = 2 then m2 else m3) D #[.int .i64 0, .int .i64 0, .int .i64 0, .int .i64 0, .int .i64 0, .int .i64 0, .int .i64 0, .int .i64 0] (t : Nat) c) :
    Calls Tryd.prog 35 #[.string s, .agg #[.int .i64 S, .int .i64 X, .int .i64 fY, .bool T, .int .i64 D, .int .i64 3, .int .i64 C, .int .i64 0, .int .i64 0, .int .i64 0, .int .i64 0, .int .i64 (fr : Nat), .int .i64 q, .int .i64 0, .int .i64 0], .int .i64 (to : Nat)] W fun e w' => e = .returned (.agg (badA 2 ((fr : Int) + 40 + 4 * (t : Int)))) ∧ W.grownBy w' none := by
  have w40 : IntKind.i64.wrap ((fr : Int) + 40) = (fr : Int) + 40 := IntWalk.i64_in _ (by omega)
  obtain ⟨a, ha⟩ : ∃ a : Nat, fr + 40 = a := ⟨_, rfl⟩
  have haI : (fr : Int) + 40 = (a : Int) := by omega
  rw [haI] at w40 ⊢
  have K0 := fun u => le4_is s a (by omega) u
  have K1 := fun u => le4_is s (a + 4) (by omega) u
  have K2 := fun u => le4_is s (a + 8) (by omega) u
  rw [show fr + 40 = a from ha] at e0
  rw [show fr + 44 = a + 4 from by omega] at e1
  rw [show fr + 48 = a + 8 from by omega] at e2
  simp only [e0] at K0
  simp only [e1] at K1
  simp only [e2] at K2
  have K0 := Lib.hid K0
  have K1 := Lib.hid K1
  have K2 := Lib.hid K2
  have K3 := fun u => le4_is s (a + 12) (by omega) u
  rw [show fr + 52 = a + 12 from by omega] at e3
  simp only [e3] at K3
  have K3 := Lib.hid K3
  have hS56 : (56 : Int) ≤ S := hS
  have hS40 : (S == 40) = false := by rw [beq_eq_false_iff_ne]; omega
  obtain ⟨b4, hb4⟩ : ∃ z : Int, ((a + 4 : Nat) : Int) = z := ⟨_, rfl⟩
  have wa4 : IntKind.i64.wrap ((a : Int) + 4) = b4 := by rw [IntWalk.i64_in _ (by omega)]; omega
  obtain ⟨b8, hb8⟩ : ∃ z : Int, ((a + 8 : Nat) : Int) = z := ⟨_, rfl⟩
  have wa8 : IntKind.i64.wrap ((a : Int) + 8) = b8 := by rw [IntWalk.i64_in _ (by omega)]; omega
  obtain ⟨b12, hb12⟩ : ∃ z : Int, ((a + 12 : Nat) : Int) = z := ⟨_, rfl⟩
  have wa12 : IntKind.i64.wrap ((a : Int) + 12) = b12 := by rw [IntWalk.i64_in _ (by omega)]; omega
  obtain ⟨b16, hb16⟩ : ∃ z : Int, ((a + 16 : Nat) : Int) = z := ⟨_, rfl⟩
  have wa16 : IntKind.i64.wrap ((a : Int) + 16) = b16 := by rw [IntWalk.i64_in _ (by omega)]; omega
  have S0 : ∀ w, (Instr.slice 9 (.string s) (some (.int .i64 (a : Nat))) (some (.int .i64 b4)) none).run Tryd.prog w = .ok (.string (s.extract a (a + 4))) w := fun w => by rw [← hb4]; exact cut_at s a 4 (by omega) w
  have S1 : ∀ w, (Instr.slice 9 (.string s) (some (.int .i64 b4)) (some (.int .i64 b8)) none).run Tryd.prog w = .ok (.string (s.extract (a + 4) ((a + 4) + 4))) w := fun w => by rw [← hb4, ← hb8, show ((a + 8 : Nat) : Int) = (((a + 4) + 4 : Nat) : Int) from by omega]; exact cut_at s (a + 4) 4 (by omega) w
  have S2 : ∀ w, (Instr.slice 9 (.string s) (some (.int .i64 b8)) (some (.int .i64 b12)) none).run Tryd.prog w = .ok (.string (s.extract (a + 8) ((a + 8) + 4))) w := fun w => by rw [← hb8, ← hb12, show ((a + 12 : Nat) : Int) = (((a + 8) + 4 : Nat) : Int) from by omega]; exact cut_at s (a + 8) 4 (by omega) w
  have S3 : ∀ w, (Instr.slice 9 (.string s) (some (.int .i64 b12)) (some (.int .i64 b16)) none).run Tryd.prog w = .ok (.string (s.extract (a + 12) ((a + 12) + 4))) w := fun w => by rw [← hb12, ← hb16, show ((a + 16 : Nat) : Int) = (((a + 12) + 4 : Nat) : Int) from by omega]; exact cut_at s (a + 12) 4 (by omega) w
  have hgt : ¬ (to : Int) < q := by omega
  obtain ⟨t4, ht4⟩ : ∃ z : Int, 4 * (t : Int) = z := ⟨_, rfl⟩
  have wt : IntKind.i64.wrap (4 * (t : Int)) = t4 := by rw [IntWalk.i64_in _ (by omega)]; exact ht4
  rw [ht4]
  have wp : IntKind.i64.wrap ((a : Int) + t4) = (a : Int) + t4 := IntWalk.i64_in _ (by omega)
  have KF2 := Lib.hid KF.2
  clear KF e0 e1 e2 e3 hfr hs hq hqt hb4 hb8 hb12 hb16 ha ht4 ht hS
  go_enter Tryd.func35, Tryd.ntmps35
  go_upto_region 1 with fail
  have I0 : DJ W #[.int .i64 S, .int .i64 X, .int .i64 fY, .bool T, .int .i64 D, .int .i64 3, .int .i64 C, .int .i64 0, .int .i64 0, .int .i64 0, .int .i64 0, .int .i64 (fr : Nat), .int .i64 q, .int .i64 0, .int .i64 0] _ := DJ.new
  have n1 : ¬ W.heap.size = W.heap.size + 1 := by omega
  have n2 : ¬ W.heap.size + 1 = W.heap.size := by omega
  generalize ((W.alloc (.cells #[.int .i64 S, .int .i64 X, .int .i64 fY, .bool T, .int .i64 D, .int .i64 3, .int .i64 C, .int .i64 0, .int .i64 0, .int .i64 0, .int .i64 0, .int .i64 (fr : Nat), .int .i64 q, .int .i64 0, .int .i64 0] 37)).alloc (.cells #[.int .i64 0, .int .i64 0, .int .i64 0, .bool false, .int .i64 0, .int .i64 0, .int .i64 0, .int .i64 0, .int .i64 0, .int .i64 0, .int .i64 0, .int .i64 0, .int .i64 0, .int .i64 0, .int .i64 0] 37)) = w0 at I0 ⊢
  have hs0 : W.heap.size + 1 < w0.heap.size := blk_lt I0.res
  have a0 := blk_cell I0.hd 0
  have a1 := blk_cell I0.hd 1
  have a2 := blk_cell I0.hd 2
  have a3 := blk_cell I0.hd 3
  have a4 := blk_cell I0.hd 4
  have a5 := blk_cell I0.hd 5
  have a6 := blk_cell I0.hd 6
  have a7 := blk_cell I0.hd 7
  have a8 := blk_cell I0.hd 8
  have a9 := blk_cell I0.hd 9
  have a10 := blk_cell I0.hd 10
  have a11 := blk_cell I0.hd 11
  have a12 := blk_cell I0.hd 12
  have a13 := blk_cell I0.hd 13
  have a14 := blk_cell I0.hd 14
  have f0 := blk_free I0.hd 0
  have f1 := blk_free I0.hd 1
  have f2 := blk_free I0.hd 2
  have f3 := blk_free I0.hd 3
  have f4 := blk_free I0.hd 4
  have f5 := blk_free I0.hd 5
  have f6 := blk_free I0.hd 6
  have f7 := blk_free I0.hd 7
  have f8 := blk_free I0.hd 8
  have f9 := blk_free I0.hd 9
  have f10 := blk_free I0.hd 10
  have f11 := blk_free I0.hd 11
  have f12 := blk_free I0.hd 12
  have f13 := blk_free I0.hd 13
  have f14 := blk_free I0.hd 14
  simp only [List.getElem?_toArray, List.getElem?_cons_succ, List.getElem?_cons_zero] at a0 a1 a2 a3 a4 a5 a6 a7 a8 a9 a10 a11 a12 a13 a14
  have r0 := blk_cell I0.res 0
  have r1 := blk_cell I0.res 1
  have r2 := blk_cell I0.res 2
  have r3 := blk_cell I0.res 3
  have r4 := blk_cell I0.res 4
  have r5 := blk_cell I0.res 5
  have r6 := blk_cell I0.res 6
  have r7 := blk_cell I0.res 7
  have r8 := blk_cell I0.res 8
  have r9 := blk_cell I0.res 9
  have r10 := blk_cell I0.res 10
  have r11 := blk_cell I0.res 11
  have r12 := blk_cell I0.res 12
  have r13 := blk_cell I0.res 13
  have r14 := blk_cell I0.res 14
  have g0 := blk_free I0.res 0
  have g1 := blk_free I0.res 1
  have g2 := blk_free I0.res 2
  have g3 := blk_free I0.res 3
  have g4 := blk_free I0.res 4
  have g5 := blk_free I0.res 5
  have g6 := blk_free I0.res 6
  have g7 := blk_free I0.res 7
  have g8 := blk_free I0.res 8
  have g9 := blk_free I0.res 9
  have g10 := blk_free I0.res 10
  have g11 := blk_free I0.res 11
  have g12 := blk_free I0.res 12
  have g13 := blk_free I0.res 13
  have g14 := blk_free I0.res 14
  simp only [List.getElem?_toArray, List.getElem?_cons_succ, List.getElem?_cons_zero] at r0 r1 r2 r3 r4 r5 r6 r7 r8 r9 r10 r11 r12 r13 r14
  have l0 := blk_lt I0.hd
  have l1 := blk_lt I0.res
  have HI0 := Lib.hid I0
  clear I0
  go_upto_region 12 with fail
  go_region_held3 (fun _ => True) (trivial)
    (first
      | (go_at_call 29; with_reducible refine (K0.out _).mono ?_; rintro e w' ⟨rfl, rfl⟩)
      | (go_at_call 29; with_reducible refine (K1.out _).mono ?_; rintro e w' ⟨rfl, rfl⟩)
      | (go_at_call 29; with_reducible refine (K2.out _).mono ?_; rintro e w' ⟨rfl, rfl⟩))
  all_goals
    obtain ⟨lb, hlb⟩ : ∃ k, w0.heap.size = k := ⟨_, rfl⟩
    rw [hlb] at hs0 ⊢
    refine abs_w (R := DK W lb #[.int .i64 S, .int .i64 X, .int .i64 fY, .bool T, .int .i64 D, .int .i64 3, .int .i64 C, .int .i64 0, .int .i64 0, .int .i64 0, .int .i64 0, .int .i64 (fr : Nat), .int .i64 q, .int .i64 0, .int .i64 0] #[.int .i64 m0, .int .i64 m1, .int .i64 m2, .int .i64 0]) ⟨⟨?_, ?_, ?_⟩, ?_, hs0⟩ (fun u2 I2 => ?_)
    · first | exact blk_al HI0.out.hd _ | exact blk_al (w := w0.drew) HI0.out.hd _
    · first | exact blk_al HI0.out.res _ | exact blk_al (w := w0.drew) HI0.out.res _
    · first | exact gb_trans (gb_trans HI0.out.gb (World.grownBy_alloc w0 _ none)) (gb_drew _ _) | exact gb_trans (gb_trans HI0.out.gb (gb_drew w0 _)) (World.grownBy_alloc w0.drew _ none)
    · first | (rw [← hlb]; exact blk_at (w := w0)) | (rw [← hlb]; exact blk_at (w := w0.drew))
    clear a0 f0 r0 g0 a1 f1 r1 g1 a2 f2 r2 g2 a3 f3 r3 g3 a4 f4 r4 g4 a5 f5 r5 g5 a6 f6 r6 g6 a7 f7 r7 g7 a8 f8 r8 g8 a9 f9 r9 g9 a10 f10 r10 g10 a11 f11 r11 g11 a12 f12 r12 g12 a13 f13 r13 g13 a14 f14 r14 g14 l0 l1
    have a0 := blk_cell I2.dj.hd 0
    have a1 := blk_cell I2.dj.hd 1
    have a2 := blk_cell I2.dj.hd 2
    have a3 := blk_cell I2.dj.hd 3
    have a4 := blk_cell I2.dj.hd 4
    have a5 := blk_cell I2.dj.hd 5
    have a6 := blk_cell I2.dj.hd 6
    have a7 := blk_cell I2.dj.hd 7
    have a8 := blk_cell I2.dj.hd 8
    have a9 := blk_cell I2.dj.hd 9
    have a10 := blk_cell I2.dj.hd 10
    have a11 := blk_cell I2.dj.hd 11
    have a12 := blk_cell I2.dj.hd 12
    have a13 := blk_cell I2.dj.hd 13
    have a14 := blk_cell I2.dj.hd 14
    have f0 := blk_free I2.dj.hd 0
    have f1 := blk_free I2.dj.hd 1
    have f2 := blk_free I2.dj.hd 2
    have f3 := blk_free I2.dj.hd 3
    have f4 := blk_free I2.dj.hd 4
    have f5 := blk_free I2.dj.hd 5
    have f6 := blk_free I2.dj.hd 6
    have f7 := blk_free I2.dj.hd 7
    have f8 := blk_free I2.dj.hd 8
    have f9 := blk_free I2.dj.hd 9
    have f10 := blk_free I2.dj.hd 10
    have f11 := blk_free I2.dj.hd 11
    have f12 := blk_free I2.dj.hd 12
    have f13 := blk_free I2.dj.hd 13
    have f14 := blk_free I2.dj.hd 14
    simp only [List.getElem?_toArray, List.getElem?_cons_succ, List.getElem?_cons_zero] at a0 a1 a2 a3 a4 a5 a6 a7 a8 a9 a10 a11 a12 a13 a14
    have r0 := blk_cell I2.dj.res 0
    have r1 := blk_cell I2.dj.res 1
    have r2 := blk_cell I2.dj.res 2
    have r3 := blk_cell I2.dj.res 3
    have r4 := blk_cell I2.dj.res 4
    have r5 := blk_cell I2.dj.res 5
    have r6 := blk_cell I2.dj.res 6
    have r7 := blk_cell I2.dj.res 7
    have r8 := blk_cell I2.dj.res 8
    have r9 := blk_cell I2.dj.res 9
    have r10 := blk_cell I2.dj.res 10
    have r11 := blk_cell I2.dj.res 11
    have r12 := blk_cell I2.dj.res 12
    have r13 := blk_cell I2.dj.res 13
    have r14 := blk_cell I2.dj.res 14
    have g0 := blk_free I2.dj.res 0
    have g1 := blk_free I2.dj.res 1
    have g2 := blk_free I2.dj.res 2
    have g3 := blk_free I2.dj.res 3
    have g4 := blk_free I2.dj.res 4
    have g5 := blk_free I2.dj.res 5
    have g6 := blk_free I2.dj.res 6
    have g7 := blk_free I2.dj.res 7
    have g8 := blk_free I2.dj.res 8
    have g9 := blk_free I2.dj.res 9
    have g10 := blk_free I2.dj.res 10
    have g11 := blk_free I2.dj.res 11
    have g12 := blk_free I2.dj.res 12
    have g13 := blk_free I2.dj.res 13
    have g14 := blk_free I2.dj.res 14
    simp only [List.getElem?_toArray, List.getElem?_cons_succ, List.getElem?_cons_zero] at r0 r1 r2 r3 r4 r5 r6 r7 r8 r9 r10 r11 r12 r13 r14
    have l0 := blk_lt I2.dj.hd
    have l1 := blk_lt I2.dj.res
    have v0 := blk_cell I2.l 0
    have v1 := blk_cell I2.l 1
    have v2 := blk_cell I2.l 2
    have v3 := blk_cell I2.l 3
    have vf0 := blk_free I2.l 0
    have vf1 := blk_free I2.l 1
    have vf2 := blk_free I2.l 2
    have vf3 := blk_free I2.l 3
    simp only [List.getElem?_toArray, List.getElem?_cons_succ, List.getElem?_cons_zero] at v0 v1 v2 v3
    have l2 := blk_lt I2.l
    have HI2 := Lib.hid I2
    clear I2
    go_wp2_with fail
    refine (K3.out _).mono ?_
    rintro e w' ⟨rfl, rfl⟩
    go_upto_region 15 with fail
    refine abs_w (R := DK W lb #[.int .i64 S, .int .i64 X, .int .i64 fY, .bool T, .int .i64 D, .int .i64 3, .int .i64 C, .int .i64 0, .int .i64 0, .int .i64 0, .int .i64 0, .int .i64 (fr : Nat), .int .i64 q, .int .i64 0, .int .i64 0] #[.int .i64 m0, .int .i64 m1, .int .i64 m2, .int .i64 m3]) ?_ (fun u3 I3 => ?_)
    · exact HI2.out.lset 3 _
    clear a0 f0 r0 g0 a1 f1 r1 g1 a2 f2 r2 g2 a3 f3 r3 g3 a4 f4 r4 g4 a5 f5 r5 g5 a6 f6 r6 g6 a7 f7 r7 g7 a8 f8 r8 g8 a9 f9 r9 g9 a10 f10 r10 g10 a11 f11 r11 g11 a12 f12 r12 g12 a13 f13 r13 g13 a14 f14 r14 g14 v0 vf0 v1 vf1 v2 vf2 v3 vf3 l0 l1 l2
    clear HI2
    have a0 := blk_cell I3.dj.hd 0
    have a1 := blk_cell I3.dj.hd 1
    have a2 := blk_cell I3.dj.hd 2
    have a3 := blk_cell I3.dj.hd 3
    have a4 := blk_cell I3.dj.hd 4
    have a5 := blk_cell I3.dj.hd 5
    have a6 := blk_cell I3.dj.hd 6
    have a7 := blk_cell I3.dj.hd 7
    have a8 := blk_cell I3.dj.hd 8
    have a9 := blk_cell I3.dj.hd 9
    have a10 := blk_cell I3.dj.hd 10
    have a11 := blk_cell I3.dj.hd 11
    have a12 := blk_cell I3.dj.hd 12
    have a13 := blk_cell I3.dj.hd 13
    have a14 := blk_cell I3.dj.hd 14
    have f0 := blk_free I3.dj.hd 0
    have f1 := blk_free I3.dj.hd 1
    have f2 := blk_free I3.dj.hd 2
    have f3 := blk_free I3.dj.hd 3
    have f4 := blk_free I3.dj.hd 4
    have f5 := blk_free I3.dj.hd 5
    have f6 := blk_free I3.dj.hd 6
    have f7 := blk_free I3.dj.hd 7
    have f8 := blk_free I3.dj.hd 8
    have f9 := blk_free I3.dj.hd 9
    have f10 := blk_free I3.dj.hd 10
    have f11 := blk_free I3.dj.hd 11
    have f12 := blk_free I3.dj.hd 12
    have f13 := blk_free I3.dj.hd 13
    have f14 := blk_free I3.dj.hd 14
    simp only [List.getElem?_toArray, List.getElem?_cons_succ, List.getElem?_cons_zero] at a0 a1 a2 a3 a4 a5 a6 a7 a8 a9 a10 a11 a12 a13 a14
    have r0 := blk_cell I3.dj.res 0
    have r1 := blk_cell I3.dj.res 1
    have r2 := blk_cell I3.dj.res 2
    have r3 := blk_cell I3.dj.res 3
    have r4 := blk_cell I3.dj.res 4
    have r5 := blk_cell I3.dj.res 5
    have r6 := blk_cell I3.dj.res 6
    have r7 := blk_cell I3.dj.res 7
    have r8 := blk_cell I3.dj.res 8
    have r9 := blk_cell I3.dj.res 9
    have r10 := blk_cell I3.dj.res 10
    have r11 := blk_cell I3.dj.res 11
    have r12 := blk_cell I3.dj.res 12
    have r13 := blk_cell I3.dj.res 13
    have r14 := blk_cell I3.dj.res 14
    have g0 := blk_free I3.dj.res 0
    have g1 := blk_free I3.dj.res 1
    have g2 := blk_free I3.dj.res 2
    have g3 := blk_free I3.dj.res 3
    have g4 := blk_free I3.dj.res 4
    have g5 := blk_free I3.dj.res 5
    have g6 := blk_free I3.dj.res 6
    have g7 := blk_free I3.dj.res 7
    have g8 := blk_free I3.dj.res 8
    have g9 := blk_free I3.dj.res 9
    have g10 := blk_free I3.dj.res 10
    have g11 := blk_free I3.dj.res 11
    have g12 := blk_free I3.dj.res 12
    have g13 := blk_free I3.dj.res 13
    have g14 := blk_free I3.dj.res 14
    simp only [List.getElem?_toArray, List.getElem?_cons_succ, List.getElem?_cons_zero] at r0 r1 r2 r3 r4 r5 r6 r7 r8 r9 r10 r11 r12 r13 r14
    have l0 := blk_lt I3.dj.hd
    have l1 := blk_lt I3.dj.res
    have v0 := blk_cell I3.l 0
    have v1 := blk_cell I3.l 1
    have v2 := blk_cell I3.l 2
    have v3 := blk_cell I3.l 3
    have vf0 := blk_free I3.l 0
    have vf1 := blk_free I3.l 1
    have vf2 := blk_free I3.l 2
    have vf3 := blk_free I3.l 3
    simp only [List.getElem?_toArray, List.getElem?_cons_succ, List.getElem?_cons_zero] at v0 v1 v2 v3
    have l2 := blk_lt I3.l
    have HI3 := Lib.hid I3
    clear I3
    have hc4 : ∀ (u : World), u.cell? ⟨lb, 0, none⟩ = some (.int .i64 m0) → u.cell? ⟨lb, 1, none⟩ = some (.int .i64 m1) → u.cell? ⟨lb, 2, none⟩ = some (.int .i64 m2) → u.cell? ⟨lb, 3, none⟩ = some (.int .i64 m3) → ∀ k, k < 4 → u.cell? ⟨lb, k, none⟩ = some (.int .i64 ((fun k => if k = 0 then m0 else if k = 1 then m1 else if k = 2 then m2 else m3) k)) := by
      intro u h0 h1 h2 h3 k hk
      obtain rfl | rfl | rfl | rfl : k = 0 ∨ k = 1 ∨ k = 2 ∨ k = 3 := by omega
      · exact h0
      · exact h1
      · exact h2
      · exact h3
    have HC4 := Lib.hid hc4
    clear hc4
    go_wp2_with fail
    refine (KF2.out lb _ (HC4.out _ v0 v1 v2 v3)).mono ?_
    rintro e u5 ⟨rfl, g5⟩
    have I5 := HI3.out.grown g5
    clear g5 HI3 HC4
    clear a0 f0 r0 g0 a1 f1 r1 g1 a2 f2 r2 g2 a3 f3 r3 g3 a4 f4 r4 g4 a5 f5 r5 g5 a6 f6 r6 g6 a7 f7 r7 g7 a8 f8 r8 g8 a9 f9 r9 g9 a10 f10 r10 g10 a11 f11 r11 g11 a12 f12 r12 g12 a13 f13 r13 g13 a14 f14 r14 g14 v0 vf0 v1 vf1 v2 vf2 v3 vf3 l0 l1 l2
    have a0 := blk_cell I5.dj.hd 0
    have a1 := blk_cell I5.dj.hd 1
    have a2 := blk_cell I5.dj.hd 2
    have a3 := blk_cell I5.dj.hd 3
    have a4 := blk_cell I5.dj.hd 4
    have a5 := blk_cell I5.dj.hd 5
    have a6 := blk_cell I5.dj.hd 6
    have a7 := blk_cell I5.dj.hd 7
    have a8 := blk_cell I5.dj.hd 8
    have a9 := blk_cell I5.dj.hd 9
    have a10 := blk_cell I5.dj.hd 10
    have a11 := blk_cell I5.dj.hd 11
    have a12 := blk_cell I5.dj.hd 12
    have a13 := blk_cell I5.dj.hd 13
    have a14 := blk_cell I5.dj.hd 14
    have f0 := blk_free I5.dj.hd 0
    have f1 := blk_free I5.dj.hd 1
    have f2 := blk_free I5.dj.hd 2
    have f3 := blk_free I5.dj.hd 3
    have f4 := blk_free I5.dj.hd 4
    have f5 := blk_free I5.dj.hd 5
    have f6 := blk_free I5.dj.hd 6
    have f7 := blk_free I5.dj.hd 7
    have f8 := blk_free I5.dj.hd 8
    have f9 := blk_free I5.dj.hd 9
    have f10 := blk_free I5.dj.hd 10
    have f11 := blk_free I5.dj.hd 11
    have f12 := blk_free I5.dj.hd 12
    have f13 := blk_free I5.dj.hd 13
    have f14 := blk_free I5.dj.hd 14
    simp only [List.getElem?_toArray, List.getElem?_cons_succ, List.getElem?_cons_zero] at a0 a1 a2 a3 a4 a5 a6 a7 a8 a9 a10 a11 a12 a13 a14
    have r0 := blk_cell I5.dj.res 0
    have r1 := blk_cell I5.dj.res 1
    have r2 := blk_cell I5.dj.res 2
    have r3 := blk_cell I5.dj.res 3
    have r4 := blk_cell I5.dj.res 4
    have r5 := blk_cell I5.dj.res 5
    have r6 := blk_cell I5.dj.res 6
    have r7 := blk_cell I5.dj.res 7
    have r8 := blk_cell I5.dj.res 8
    have r9 := blk_cell I5.dj.res 9
    have r10 := blk_cell I5.dj.res 10
    have r11 := blk_cell I5.dj.res 11
    have r12 := blk_cell I5.dj.res 12
    have r13 := blk_cell I5.dj.res 13
    have r14 := blk_cell I5.dj.res 14
    have g0 := blk_free I5.dj.res 0
    have g1 := blk_free I5.dj.res 1
    have g2 := blk_free I5.dj.res 2
    have g3 := blk_free I5.dj.res 3
    have g4 := blk_free I5.dj.res 4
    have g5 := blk_free I5.dj.res 5
    have g6 := blk_free I5.dj.res 6
    have g7 := blk_free I5.dj.res 7
    have g8 := blk_free I5.dj.res 8
    have g9 := blk_free I5.dj.res 9
    have g10 := blk_free I5.dj.res 10
    have g11 := blk_free I5.dj.res 11
    have g12 := blk_free I5.dj.res 12
    have g13 := blk_free I5.dj.res 13
    have g14 := blk_free I5.dj.res 14
    simp only [List.getElem?_toArray, List.getElem?_cons_succ, List.getElem?_cons_zero] at r0 r1 r2 r3 r4 r5 r6 r7 r8 r9 r10 r11 r12 r13 r14
    have l0 := blk_lt I5.dj.hd
    have l1 := blk_lt I5.dj.res
    have v0 := blk_cell I5.l 0
    have v1 := blk_cell I5.l 1
    have v2 := blk_cell I5.l 2
    have v3 := blk_cell I5.l 3
    have vf0 := blk_free I5.l 0
    have vf1 := blk_free I5.l 1
    have vf2 := blk_free I5.l 2
    have vf3 := blk_free I5.l 3
    simp only [List.getElem?_toArray, List.getElem?_cons_succ, List.getElem?_cons_zero] at v0 v1 v2 v3
    have l2 := blk_lt I5.l
    have HI5 := Lib.hid I5
    clear I5
    have KB := Lib.hid (fun u => rbad_calls 2 ((a : Int) + t4) u)
    unfold badA at KB
    go_wp2_with fail
    refine (KB.out _).mono ?_
    rintro e w9 ⟨rfl, gx⟩
    have HI9 := Lib.hid (HI5.out.dj.grown gx)
    have r0 := blk_cell HI9.out.res 0
    have r1 := blk_cell HI9.out.res 1
    have r2 := blk_cell HI9.out.res 2
    have r3 := blk_cell HI9.out.res 3
    have r4 := blk_cell HI9.out.res 4
    have r5 := blk_cell HI9.out.res 5
    have r6 := blk_cell HI9.out.res 6
    have r7 := blk_cell HI9.out.res 7
    have r8 := blk_cell HI9.out.res 8
    have r9 := blk_cell HI9.out.res 9
    have r10 := blk_cell HI9.out.res 10
    have r11 := blk_cell HI9.out.res 11
    have r12 := blk_cell HI9.out.res 12
    have r13 := blk_cell HI9.out.res 13
    have r14 := blk_cell HI9.out.res 14
    have g0 := blk_free HI9.out.res 0
    have g1 := blk_free HI9.out.res 1
    have g2 := blk_free HI9.out.res 2
    have g3 := blk_free HI9.out.res 3
    have g4 := blk_free HI9.out.res 4
    have g5 := blk_free HI9.out.res 5
    have g6 := blk_free HI9.out.res 6
    have g7 := blk_free HI9.out.res 7
    have g8 := blk_free HI9.out.res 8
    have g9 := blk_free HI9.out.res 9
    have g10 := blk_free HI9.out.res 10
    have g11 := blk_free HI9.out.res 11
    have g12 := blk_free HI9.out.res 12
    have g13 := blk_free HI9.out.res 13
    have g14 := blk_free HI9.out.res 14
    simp only [List.getElem?_toArray, List.getElem?_cons_succ, List.getElem?_cons_zero] at r0 r1 r2 r3 r4 r5 r6 r7 r8 r9 r10 r11 r12 r13 r14
    have l1 := blk_lt HI9.out.res
    clear gx KB
    go_wp2
    refine bodyPost_ret (v := .agg (badA 2 ((a : Int) + t4))) (by simp only [results, Tryd.results35, badA]; go_simp) rfl ⟨rfl, ?_⟩
    exact gb_own (gb_own (gb_own (gb_own (gb_own (gb_own (gb_own (gb_own (gb_own (gb_own (gb_own (gb_own (gb_own (gb_own (gb_own (HI9.out.gb) (Nat.le_succ _) (gb_set _ _ _ _)) (Nat.le_succ _) (gb_set _ _ _ _)) (Nat.le_succ _) (gb_set _ _ _ _)) (Nat.le_succ _) (gb_set _ _ _ _)) (Nat.le_succ _) (gb_set _ _ _ _)) (Nat.le_succ _) (gb_set _ _ _ _)) (Nat.le_succ _) (gb_set _ _ _ _)) (Nat.le_succ _) (gb_set _ _ _ _)) (Nat.le_succ _) (gb_set _ _ _ _)) (Nat.le_succ _) (gb_set _ _ _ _)) (Nat.le_succ _) (gb_set _ _ _ _)) (Nat.le_succ _) (gb_set _ _ _ _)) (Nat.le_succ _) (gb_set _ _ _ _)) (Nat.le_succ _) (gb_set _ _ _ _)) (Nat.le_succ _) (gb_set _ _ _ _)

end Go.Proofs.YtikjfmpdfeaooaaDoor.Dh

/- The document's Read of a long head, from the count's test on: pixels of 1 bits (written by wip/gen/di1.py). -/
namespace Go.Proofs.YtikjfmpdfeaooaaDoor.Dh
open Go.ChangeShapes Go.WideShapes Go.ChangeAt Go.RowKit
open Go.Proofs.YtikjfmpdfeaooaaDoor.Le Go.Proofs.YtikjfmpdfeaooaaDoor.Sr Go.Proofs.YtikjfmpdfeaooaaDoor.Ma
set_option linter.unusedVariables false

set_option maxRecDepth 100000 in
set_option maxHeartbeats 16000000 in
theorem from17_1 (s b : ByteArray) (fr to n K : Nat) (X Y P M C : Int) (RV MV : Array Value) (W : World) (DVh : DV fr n K X Y P 1 M C RV MV) (KM0 : ∀ u, Calls Tryd.prog 35 #[.string s, .agg #[.int .i64 (n : Nat), .int .i64 X, .int .i64 (fa Y), .bool (decide (Y < 0)), .int .i64 1, .int .i64 M, .int .i64 (clrC 1 C), .int .i64 0, .int .i64 0, .int .i64 0, .int .i64 0, .int .i64 (fr : Nat), .int .i64 ((fr + n : Nat)), .int .i64 0, .int .i64 0], .int .i64 (to : Nat)] u fun e w' => e = .returned (.agg MV) ∧ u.grownBy w' none) (KP0 : ∀ u, Calls Tryd.prog 29 #[.string (b.extract 12 (12 + 2))] u fun e w' => e = .returned (.int .i64 P) ∧ u = w') (hb40 : 40 ≤ b.size) (hbm : b.size ≤ 9223372036854775807) (hMV : MVis MV) (lo : 9 ≤ K) (hb : Nat) (w5 : World) (I : DI W hb #[.int .i64 (n : Nat), .int .i64 X, .int .i64 (fa Y), .bool (decide (Y < 0)), .int .i64 1, .int .i64 M, .int .i64 C, .int .i64 0, .int .i64 0, .int .i64 0, .int .i64 0, .int .i64 (fr : Nat), .int .i64 ((fr + n : Nat)), .int .i64 0, .int .i64 0] w5) 
    (u10 u11 u12 u13 u14 u15 u16 u17 u18 u19 u20 u21 u22 u23 u24 u25 u26 u27 u28 u29 u30 u31 u32 u33 u34 u35 u36 u37 u38 u39 u40 u41 u42 u43 u44 u45 u46 u47 u48 u49 u50 u51 u52 u53 u54 u55 u56 u57 u58 u59 u60 u61 u62 u63 u64 u65 u66 u67 u68 u69 u70 u71 u72 u73 u74 u75 u76 u77 u78 u79 u80 u81 u82 u83 u84 u85 u86 u87 u88 u89 u90 u91 u92 u93 u94 u95 u96 u97 u98 u99 u100 u101 u102 u103 u104 u105 u106 u107 u108 u109 u110 u111 u112 u113 u114 u115 u116 u117 u118 u119 u120 u121 u122 u123 u124 u125 u126 u127 u128 u129 u130 u131 u132 u133 u134 u135 u136 u137 u138 u139 u140 u141 u142 u143 u144 u145 u146 u147 u148 u149 u150 u151 u152 u153 u154 u155 u156 u157 u158 u159 u160 u161 u162 u163 u164 u165 u166 u167 u168 u169 u170 u171 u172 u173 u174 u175 u176 u177 u178 u179 u180 u181 u182 u183 u184 u185 u186 u187 u188 u189 u190 u191 u192 u193 u194 u195 u196 u197 u198 u199 u200 u201 u202 u203 u204 u205 u206 u207 u208 u209 u210 u211 u212 u213 u214 u215 u216 u217 u218 u219 u220 u221 u222 u223 u224 u225 u226 u227 u228 u229 u230 u231 : Value) (K1 K2 : Act → World → Prop) (k1 : ∀ a w, Code.wp Tryd.prog (tl7 (hd7 (tl7 (tl7 (tl7 (tl7 (tl7 (tl7 (tl7 (tl7 (tl7 (tl7 (tl7 (tl7 (tl7 (tl7 (tl7 (tl7 (tl7 (bd20)))))))))))))))))))) (Exit.then K2 (bodyPost Tryd.prog Tryd.f11 (fun e w' => e = .returned (.agg RV) ∧ W.grownBy w' none))) a w → K1 a w) (k2 : ∀ a w, Code.wp Tryd.prog (tl7 (tl7 (tl7 (tl7 (tl7 (tl7 (tl7 (tl7 (tl7 (tl7 (tl7 (tl7 (tl7 (tl7 (tl7 (tl7 (tl7 (tl7 (bd20))))))))))))))))))) (bodyPost Tryd.prog Tryd.f11 (fun e w' => e = .returned (.agg RV) ∧ W.grownBy w' none)) a w → K2 a w) :
    Code.wp Tryd.prog (hd7 (hd7 (tl7 (tl7 (tl7 (tl7 (tl7 (tl7 (tl7 (tl7 (tl7 (tl7 (tl7 (tl7 (tl7 (tl7 (tl7 (tl7 (tl7 (bd20)))))))))))))))))))) (Exit.then K1 (Exit.then K2 (bodyPost Tryd.prog Tryd.f11 (fun e w' => e = .returned (.agg RV) ∧ W.grownBy w' none)))) { tmps := #[.string s, .int .i64 (fr : Nat), .int .i64 (to : Nat), undef, undef, undef, .pointer (some ⟨W.heap.size, 0, none⟩), .int .i64 (n : Nat), .string b, .pointer (some ⟨hb, 0, none⟩), u10, u11, u12, u13, u14, u15, u16, u17, u18, u19, u20, u21, u22, u23, u24, u25, u26, u27, u28, u29, u30, u31, u32, u33, u34, u35, u36, u37, u38, u39, u40, u41, u42, u43, u44, u45, u46, u47, u48, u49, u50, u51, u52, u53, u54, u55, u56, u57, u58, u59, u60, u61, u62, u63, u64, u65, u66, u67, u68, u69, u70, u71, u72, u73, u74, u75, u76, u77, u78, u79, u80, u81, u82, u83, u84, u85, u86, u87, u88, u89, u90, u91, u92, u93, u94, u95, u96, u97, u98, u99, u100, u101, u102, u103, u104, u105, u106, u107, u108, u109, u110, u111, u112, u113, u114, u115, u116, u117, u118, u119, u120, u121, u122, u123, u124, u125, u126, u127, u128, u129, u130, u131, u132, u133, u134, u135, u136, u137, u138, u139, u140, u141, u142, u143, u144, u145, u146, u147, u148, u149, u150, u151, u152, u153, u154, u155, u156, u157, u158, u159, u160, u161, u162, u163, u164, u165, u166, u167, u168, u169, u170, u171, u172, u173, u174, u175, u176, u177, u178, u179, u180, u181, u182, u183, u184, u185, u186, u187, u188, u189, u190, u191, u192, u193, u194, u195, u196, u197, u198, u199, u200, u201, u202, u203, u204, u205, u206, u207, u208, u209, u210, u211, u212, u213, u214, u215, u216, u217, u218, u219, u220, u221, u222, u223, u224, u225, u226, u227, u228, u229, u230, u231], defers := [] } w5 := by
  have HV := Lib.hid DVh
  have KM := Lib.hid KM0
  have KP := Lib.hid KP0
  have HB40 := Lib.hid (And.intro hb40 hbm)
  have HLO := Lib.hid lo
  have ne1 : W.heap.size ≠ hb := by have := I.lt; omega
  have ne2 : hb ≠ W.heap.size := by have := I.lt; omega
  have HI := Lib.hid I
  have hfr := DVh.fle
  have hnl := DVh.nle
  clear DVh KM0 KP0 lo hb40 hbm
  conv => arg 2; whnf
  conv => arg 4; dsimp only
  conv at k1 => enter [a, w, 1, 2]; whnf
  conv at k2 => enter [a, w, 1, 2]; whnf
  have a0 := blk_cell I.hd 0
  have a1 := blk_cell I.hd 1
  have a2 := blk_cell I.hd 2
  have a3 := blk_cell I.hd 3
  have a4 := blk_cell I.hd 4
  have a5 := blk_cell I.hd 5
  have a6 := blk_cell I.hd 6
  have a7 := blk_cell I.hd 7
  have a8 := blk_cell I.hd 8
  have a9 := blk_cell I.hd 9
  have a10 := blk_cell I.hd 10
  have a11 := blk_cell I.hd 11
  have a12 := blk_cell I.hd 12
  have a13 := blk_cell I.hd 13
  have a14 := blk_cell I.hd 14
  simp only [List.getElem?_toArray, List.getElem?_cons_succ, List.getElem?_cons_zero] at a0 a1 a2 a3 a4 a5 a6 a7 a8 a9 a10 a11 a12 a13 a14
  have hlx := blk_lt I.hd
  clear I
  have hK9 : K = 9 ∨ K = 10 := by have := HLO.out; have := HV.out.f.le; omega
  have c9 : ckD n X Y P 1 M C 9 = decide (mstC 1 < C) := rfl
  have cc := HV.out.c0
  have HD := trivial
  · have KW := Lib.hid (show ∀ u, Calls Tryd.prog 34 #[.int .i64 1] u fun e w' => e = .returned (.int .i64 2) ∧ w' = u from fun u => (Go.Proofs.YtikjfmpdfeaooaaDoor.Sc.power_calls 1 u (by decide)).mono (fun _ _ h => ⟨h.1, h.2.symm⟩))
    rw [show mstC 1 = 2 from rfl] at c9
    by_cases h9 : (2 : Int) < C
    · have hK : K = 9 := by
        rcases hK9 with h | h
        · exact h
        · have h2 := HV.out.f.no 9 (by omega)
          rw [c9, decide_eq_true h9] at h2
          exact absurd h2 (by decide)
      go_wp2_with fail
      go_quiet ((go_at_call 34; exact Calls.quiet_of_same (KW.out _)))
      have HN := Lib.hid (show DI W hb #[.int .i64 (n : Nat), .int .i64 X, .int .i64 (fa Y), .bool (decide (Y < 0)), .int .i64 1, .int .i64 M, .int .i64 C, .int .i64 0, .int .i64 0, .int .i64 0, .int .i64 0, .int .i64 (fr : Nat), .int .i64 ((fr + n : Nat)), .int .i64 0, .int .i64 0] (w5.drewN nq) from ⟨HI.out.res, HI.out.hd, gb_trans HI.out.gb (gb_drewN _ nq _), HI.out.lt⟩)
      generalize w5.drewN nq = w6 at HN ⊢
      have E := Lib.hid (show RV = badA 2 ((fr : Int) + 32) from HV.out.bad 9 (by decide) hK)
      have KB := Lib.hid (fun u => rbad_calls 2 ((fr : Int) + 32) u)
      have hwp : IntKind.i64.wrap ((fr : Int) + 32) = (fr : Int) + 32 := IntWalk.i64_in _ (by omega)
      unfold badA at KB
      go_wp2_with fail

      

      refine (KB.out _).mono ?_
      rintro e w9 ⟨rfl, g9⟩
      have B9 := old0 g9 HN.out.res (blk_lt HN.out.res) (by simp)
      have r0 := blk_cell B9 0
      have r1 := blk_cell B9 1
      have r2 := blk_cell B9 2
      have r3 := blk_cell B9 3
      have r4 := blk_cell B9 4
      have r5 := blk_cell B9 5
      have r6 := blk_cell B9 6
      have r7 := blk_cell B9 7
      have r8 := blk_cell B9 8
      have r9 := blk_cell B9 9
      have r10 := blk_cell B9 10
      have r11 := blk_cell B9 11
      have r12 := blk_cell B9 12
      have r13 := blk_cell B9 13
      have r14 := blk_cell B9 14
      have rf0 := blk_free B9 0
      have rf1 := blk_free B9 1
      have rf2 := blk_free B9 2
      have rf3 := blk_free B9 3
      have rf4 := blk_free B9 4
      have rf5 := blk_free B9 5
      have rf6 := blk_free B9 6
      have rf7 := blk_free B9 7
      have rf8 := blk_free B9 8
      have rf9 := blk_free B9 9
      have rf10 := blk_free B9 10
      have rf11 := blk_free B9 11
      have rf12 := blk_free B9 12
      have rf13 := blk_free B9 13
      have rf14 := blk_free B9 14
      simp only [List.getElem?_toArray, List.getElem?_cons_succ, List.getElem?_cons_zero] at r0 r1 r2 r3 r4 r5 r6 r7 r8 r9 r10 r11 r12 r13 r14
      have hlr := blk_lt B9
      have G9 := Lib.hid (gb_trans HN.out.gb g9)
      clear g9 B9 KB
      go_wp2
      refine bodyPost_ret (v := .agg (badA 2 ((fr : Int) + 32))) (by simp only [results, Tryd.results11, badA]; go_simp) rfl ⟨by rw [E.out], ?_⟩
      exact gb_own (gb_own (gb_own (gb_own (gb_own (gb_own (gb_own (gb_own (gb_own (gb_own (gb_own (gb_own (gb_own (gb_own (gb_own (G9.out) (Nat.le_refl _) (gb_set _ _ _ _)) (Nat.le_refl _) (gb_set _ _ _ _)) (Nat.le_refl _) (gb_set _ _ _ _)) (Nat.le_refl _) (gb_set _ _ _ _)) (Nat.le_refl _) (gb_set _ _ _ _)) (Nat.le_refl _) (gb_set _ _ _ _)) (Nat.le_refl _) (gb_set _ _ _ _)) (Nat.le_refl _) (gb_set _ _ _ _)) (Nat.le_refl _) (gb_set _ _ _ _)) (Nat.le_refl _) (gb_set _ _ _ _)) (Nat.le_refl _) (gb_set _ _ _ _)) (Nat.le_refl _) (gb_set _ _ _ _)) (Nat.le_refl _) (gb_set _ _ _ _)) (Nat.le_refl _) (gb_set _ _ _ _)) (Nat.le_refl _) (gb_set _ _ _ _)
    · have hK : K = 10 := by
        rcases hK9 with h | h
        · have h2 := HV.out.f.yes (by omega)
          rw [h, c9, decide_eq_false h9] at h2
          exact absurd h2 (by decide)
        · exact h
      have E := Lib.hid (show RV = MV from by rw [HV.out.rv, hK]; rfl)
      go_wp2_with fail
      go_quiet ((go_at_call 34; exact Calls.quiet_of_same (KW.out _)))
      have HN := Lib.hid (show DI W hb #[.int .i64 (n : Nat), .int .i64 X, .int .i64 (fa Y), .bool (decide (Y < 0)), .int .i64 1, .int .i64 M, .int .i64 C, .int .i64 0, .int .i64 0, .int .i64 0, .int .i64 0, .int .i64 (fr : Nat), .int .i64 ((fr + n : Nat)), .int .i64 0, .int .i64 0] (w5.drewN nq) from ⟨HI.out.res, HI.out.hd, gb_trans HI.out.gb (gb_drewN _ nq _), HI.out.lt⟩)
      generalize w5.drewN nq = w6 at HN ⊢
      clear a0 a1 a2 a3 a4 a5 a6 a7 a8 a9 a10 a11 a12 a13 a14 hlx
      have a0 := blk_cell HN.out.hd 0
      have a1 := blk_cell HN.out.hd 1
      have a2 := blk_cell HN.out.hd 2
      have a3 := blk_cell HN.out.hd 3
      have a4 := blk_cell HN.out.hd 4
      have a5 := blk_cell HN.out.hd 5
      have a6 := blk_cell HN.out.hd 6
      have a7 := blk_cell HN.out.hd 7
      have a8 := blk_cell HN.out.hd 8
      have a9 := blk_cell HN.out.hd 9
      have a10 := blk_cell HN.out.hd 10
      have a11 := blk_cell HN.out.hd 11
      have a12 := blk_cell HN.out.hd 12
      have a13 := blk_cell HN.out.hd 13
      have a14 := blk_cell HN.out.hd 14
      simp only [List.getElem?_toArray, List.getElem?_cons_succ, List.getElem?_cons_zero] at a0 a1 a2 a3 a4 a5 a6 a7 a8 a9 a10 a11 a12 a13 a14
      have hlx := blk_lt HN.out.hd
      by_cases h0 : C = 0
      · subst h0
        have f6 := blk_free HN.out.hd 6
        go_upto_region 34 with fail
        go_wp2_with fail
        refine (KW.out _).mono ?_
        rintro e w' ⟨rfl, rfl⟩
        go_upto_region 35 with fail
        refine abs_w (R := DI W hb #[.int .i64 (n : Nat), .int .i64 X, .int .i64 (fa Y), .bool (decide (Y < 0)), .int .i64 1, .int .i64 M, .int .i64 2, .int .i64 0, .int .i64 0, .int .i64 0, .int .i64 0, .int .i64 (fr : Nat), .int .i64 ((fr + n : Nat)), .int .i64 0, .int .i64 0]) ?_ (fun w7 I7 => ?_)
        · exact ⟨blk_other HN.out.res ne1, blk_set HN.out.hd 6 _, gb_own HN.out.gb (Nat.le_of_lt HN.out.lt) (gb_set _ _ _ _), HN.out.lt⟩
        have HI7 := Lib.hid I7
        clear a0 a1 a2 a3 a4 a5 a6 a7 a8 a9 a10 a11 a12 a13 a14 hlx f6
        have a0 := blk_cell I7.hd 0
        have a1 := blk_cell I7.hd 1
        have a2 := blk_cell I7.hd 2
        have a3 := blk_cell I7.hd 3
        have a4 := blk_cell I7.hd 4
        have a5 := blk_cell I7.hd 5
        have a6 := blk_cell I7.hd 6
        have a7 := blk_cell I7.hd 7
        have a8 := blk_cell I7.hd 8
        have a9 := blk_cell I7.hd 9
        have a10 := blk_cell I7.hd 10
        have a11 := blk_cell I7.hd 11
        have a12 := blk_cell I7.hd 12
        have a13 := blk_cell I7.hd 13
        have a14 := blk_cell I7.hd 14
        simp only [List.getElem?_toArray, List.getElem?_cons_succ, List.getElem?_cons_zero] at a0 a1 a2 a3 a4 a5 a6 a7 a8 a9 a10 a11 a12 a13 a14
        have hlx := blk_lt I7.hd
        clear I7
        go_wp2_with fail
        refine (KM.out _).mono ?_
        rintro e w9 ⟨rfl, g9⟩
        have B9 := old0 g9 HI7.out.res (blk_lt HI7.out.res) (by simp)
        have G9 := Lib.hid (gb_trans HI7.out.gb g9)
        clear g9
        have HB9 := Lib.hid B9
        obtain ⟨z0, z1, z2, z3, z4, z5, z6, z7, z8, z9, z10, z11, z12, z13, z14, hmv⟩ := hMV
        subst hmv
        have r0 := blk_cell B9 0
        have r1 := blk_cell B9 1
        have r2 := blk_cell B9 2
        have r3 := blk_cell B9 3
        have r4 := blk_cell B9 4
        have r5 := blk_cell B9 5
        have r6 := blk_cell B9 6
        have r7 := blk_cell B9 7
        have r8 := blk_cell B9 8
        have r9 := blk_cell B9 9
        have r10 := blk_cell B9 10
        have r11 := blk_cell B9 11
        have r12 := blk_cell B9 12
        have r13 := blk_cell B9 13
        have r14 := blk_cell B9 14
        have rf0 := blk_free B9 0
        have rf1 := blk_free B9 1
        have rf2 := blk_free B9 2
        have rf3 := blk_free B9 3
        have rf4 := blk_free B9 4
        have rf5 := blk_free B9 5
        have rf6 := blk_free B9 6
        have rf7 := blk_free B9 7
        have rf8 := blk_free B9 8
        have rf9 := blk_free B9 9
        have rf10 := blk_free B9 10
        have rf11 := blk_free B9 11
        have rf12 := blk_free B9 12
        have rf13 := blk_free B9 13
        have rf14 := blk_free B9 14
        simp only [List.getElem?_toArray, List.getElem?_cons_succ, List.getElem?_cons_zero] at r0 r1 r2 r3 r4 r5 r6 r7 r8 r9 r10 r11 r12 r13 r14
        have hlr := blk_lt B9
        clear B9
        go_wp2
        refine bodyPost_ret (v := .agg #[.int .i64 z0, .int .i64 z1, .int .i64 z2, .bool z3, .int .i64 z4, .int .i64 z5, .int .i64 z6, .int .i64 z7, .int .i64 z8, .int .i64 z9, .int .i64 z10, .int .i64 z11, .int .i64 z12, .int .i64 z13, .int .i64 z14]) (by simp only [results, Tryd.results11]; go_simp) rfl ⟨by rw [E.out], ?_⟩
        exact gb_own (gb_own (gb_own (gb_own (gb_own (gb_own (gb_own (gb_own (gb_own (gb_own (gb_own (gb_own (gb_own (gb_own (gb_own (G9.out) (Nat.le_refl _) (gb_set _ _ _ _)) (Nat.le_refl _) (gb_set _ _ _ _)) (Nat.le_refl _) (gb_set _ _ _ _)) (Nat.le_refl _) (gb_set _ _ _ _)) (Nat.le_refl _) (gb_set _ _ _ _)) (Nat.le_refl _) (gb_set _ _ _ _)) (Nat.le_refl _) (gb_set _ _ _ _)) (Nat.le_refl _) (gb_set _ _ _ _)) (Nat.le_refl _) (gb_set _ _ _ _)) (Nat.le_refl _) (gb_set _ _ _ _)) (Nat.le_refl _) (gb_set _ _ _ _)) (Nat.le_refl _) (gb_set _ _ _ _)) (Nat.le_refl _) (gb_set _ _ _ _)) (Nat.le_refl _) (gb_set _ _ _ _)) (Nat.le_refl _) (gb_set _ _ _ _)
      · have hc0 : (C == 0) = false := by rw [beq_eq_false_iff_ne]; exact h0
        rw [show clrC 1 C = C from if_neg h0] at KM
        go_wp2_with fail
        refine (KM.out _).mono ?_
        rintro e w9 ⟨rfl, g9⟩
        have B9 := old0 g9 HN.out.res (blk_lt HN.out.res) (by simp)
        have G9 := Lib.hid (gb_trans HN.out.gb g9)
        clear g9
        have HB9 := Lib.hid B9
        obtain ⟨z0, z1, z2, z3, z4, z5, z6, z7, z8, z9, z10, z11, z12, z13, z14, hmv⟩ := hMV
        subst hmv
        have r0 := blk_cell B9 0
        have r1 := blk_cell B9 1
        have r2 := blk_cell B9 2
        have r3 := blk_cell B9 3
        have r4 := blk_cell B9 4
        have r5 := blk_cell B9 5
        have r6 := blk_cell B9 6
        have r7 := blk_cell B9 7
        have r8 := blk_cell B9 8
        have r9 := blk_cell B9 9
        have r10 := blk_cell B9 10
        have r11 := blk_cell B9 11
        have r12 := blk_cell B9 12
        have r13 := blk_cell B9 13
        have r14 := blk_cell B9 14
        have rf0 := blk_free B9 0
        have rf1 := blk_free B9 1
        have rf2 := blk_free B9 2
        have rf3 := blk_free B9 3
        have rf4 := blk_free B9 4
        have rf5 := blk_free B9 5
        have rf6 := blk_free B9 6
        have rf7 := blk_free B9 7
        have rf8 := blk_free B9 8
        have rf9 := blk_free B9 9
        have rf10 := blk_free B9 10
        have rf11 := blk_free B9 11
        have rf12 := blk_free B9 12
        have rf13 := blk_free B9 13
        have rf14 := blk_free B9 14
        simp only [List.getElem?_toArray, List.getElem?_cons_succ, List.getElem?_cons_zero] at r0 r1 r2 r3 r4 r5 r6 r7 r8 r9 r10 r11 r12 r13 r14
        have hlr := blk_lt B9
        clear B9
        go_wp2
        refine bodyPost_ret (v := .agg #[.int .i64 z0, .int .i64 z1, .int .i64 z2, .bool z3, .int .i64 z4, .int .i64 z5, .int .i64 z6, .int .i64 z7, .int .i64 z8, .int .i64 z9, .int .i64 z10, .int .i64 z11, .int .i64 z12, .int .i64 z13, .int .i64 z14]) (by simp only [results, Tryd.results11]; go_simp) rfl ⟨by rw [E.out], ?_⟩
        exact gb_own (gb_own (gb_own (gb_own (gb_own (gb_own (gb_own (gb_own (gb_own (gb_own (gb_own (gb_own (gb_own (gb_own (gb_own (G9.out) (Nat.le_refl _) (gb_set _ _ _ _)) (Nat.le_refl _) (gb_set _ _ _ _)) (Nat.le_refl _) (gb_set _ _ _ _)) (Nat.le_refl _) (gb_set _ _ _ _)) (Nat.le_refl _) (gb_set _ _ _ _)) (Nat.le_refl _) (gb_set _ _ _ _)) (Nat.le_refl _) (gb_set _ _ _ _)) (Nat.le_refl _) (gb_set _ _ _ _)) (Nat.le_refl _) (gb_set _ _ _ _)) (Nat.le_refl _) (gb_set _ _ _ _)) (Nat.le_refl _) (gb_set _ _ _ _)) (Nat.le_refl _) (gb_set _ _ _ _)) (Nat.le_refl _) (gb_set _ _ _ _)) (Nat.le_refl _) (gb_set _ _ _ _)) (Nat.le_refl _) (gb_set _ _ _ _)

end Go.Proofs.YtikjfmpdfeaooaaDoor.Dh
