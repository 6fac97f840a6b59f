/- Texts of one kind, one behind the other: Di4b, Di4c, Di4d, Di4e, Di4f, Di4g, Di4h, Di4i. -/
import Derived.Deep.RegionHeld3
import Derived.Test.YtikjfmpdfeaooaaDoorG18
/- The document's answer of a head of twelve bytes (b; written by wip/gen/di4.py). -/
namespace Go.Proofs.YtikjfmpdfeaooaaDoor.Dh
open Go.ChangeShapes Go.WideShapes Go.ChangeAt Go.RowKit
open Go.Proofs.YtikjfmpdfeaooaaDoor.Le Go.Proofs.YtikjfmpdfeaooaaDoor.Sr Go.Proofs.YtikjfmpdfeaooaaDoor.Ma
set_option linter.unusedVariables false

set_option maxRecDepth 100000 in
set_option maxHeartbeats 8000000 in
theorem rshort_b (z : ByteArray) (fr : Nat) (X Y P : Int) (W : World) (hzs : z.size = 12) (hfr : fr ≤ 4611686018427387904) (hX : ((w2 z 4 : Nat) : Int) = X) (hY : ((w2 z 6 : Nat) : Int) = Y) (hP : ((w2 z 8 : Nat) : Int) = P) (D : Int) (hD : ((w2 z 10 : Nat) : Int) = D) (b0 : ¬ X ≤ 0) (b1 : 16384 < X) :
    Calls Tryd.prog 30 #[.string z, .int .i64 (fr : Nat)] W fun e w' => e = .returned (.agg (shV fr X Y P D)) ∧ W.grownBy w' none := by
  have KX0 := fun u => le2_is z 4 (by omega) u
  have KY0 := fun u => le2_is z 6 (by omega) u
  have KD0 := fun u => le2_is z 10 (by omega) u
  have KP0 := fun u => le2_is z 8 (by omega) u
  rw [hX] at KX0
  rw [hY] at KY0
  rw [hD] at KD0
  rw [hP] at KP0
  have KX := Lib.hid KX0
  have KY := Lib.hid KY0
  have KD := Lib.hid KD0
  have KP := Lib.hid KP0
  have s1 : ∀ w, (Instr.slice 9 (.string z) (some (.int .i64 4)) (some (.int .i64 6)) none).run Tryd.prog w = .ok (.string (z.extract 4 (4 + 2))) w := fun w => cut_at z 4 2 (by omega) w
  have s2 : ∀ w, (Instr.slice 9 (.string z) (some (.int .i64 6)) (some (.int .i64 8)) none).run Tryd.prog w = .ok (.string (z.extract 6 (6 + 2))) w := fun w => cut_at z 6 2 (by omega) w
  have s3 : ∀ w, (Instr.slice 9 (.string z) (some (.int .i64 10)) (some (.int .i64 12)) none).run Tryd.prog w = .ok (.string (z.extract 10 (10 + 2))) w := fun w => cut_at z 10 2 (by omega) w
  have s4 : ∀ w, (Instr.slice 9 (.string z) (some (.int .i64 8)) (some (.int .i64 10)) none).run Tryd.prog w = .ok (.string (z.extract 8 (8 + 2))) w := fun w => cut_at z 8 2 (by omega) w
  obtain ⟨q, hq⟩ : ∃ q : Int, ((fr + 12 : Nat) : Int) = q := ⟨_, rfl⟩
  have wq : IntKind.i64.wrap ((fr : Int) + 12) = q := by rw [IntWalk.i64_in _ (by omega)]; omega
  have HQ := Lib.hid hq
  clear KX0 KY0 KD0 KP0 hX hY hP hD hq hzs
  go_enter Tryd.func30, Tryd.ntmps30
  go_upto_region 1 with fail
  have hl1 : (W.alloc (.cells #[.int .i64 0, .int .i64 0, .int .i64 0, .bool false, .int .i64 0, .int .i64 0, .int .i64 0, .int .i64 0, .int .i64 0, .int .i64 0, .int .i64 0, .int .i64 0, .int .i64 0, .int .i64 0, .int .i64 0] 37)).heap.size = W.heap.size + 1 := size_alloc _ _
  have R0 := blk_at (w := W) (o := .cells #[.int .i64 0, .int .i64 0, .int .i64 0, .bool false, .int .i64 0, .int .i64 0, .int .i64 0, .int .i64 0, .int .i64 0, .int .i64 0, .int .i64 0, .int .i64 0, .int .i64 0, .int .i64 0, .int .i64 0] 37)
  have G0 := World.grownBy_alloc W (.cells #[.int .i64 0, .int .i64 0, .int .i64 0, .bool false, .int .i64 0, .int .i64 0, .int .i64 0, .int .i64 0, .int .i64 0, .int .i64 0, .int .i64 0, .int .i64 0, .int .i64 0, .int .i64 0, .int .i64 0] 37) none
  generalize W.alloc (.cells #[.int .i64 0, .int .i64 0, .int .i64 0, .bool false, .int .i64 0, .int .i64 0, .int .i64 0, .int .i64 0, .int .i64 0, .int .i64 0, .int .i64 0, .int .i64 0, .int .i64 0, .int .i64 0, .int .i64 0] 37) = w0 at R0 G0 hl1 ⊢
  go_region_held3 (fun _ => True) (trivial)
    (first
      | (go_at_call 29; with_reducible refine (KX.out _).mono ?_; rintro e w' ⟨rfl, rfl⟩)
      | (go_at_call 29; with_reducible refine (KY.out _).mono ?_; rintro e w' ⟨rfl, rfl⟩)
      | (go_at_call 29; with_reducible refine (KD.out _).mono ?_; rintro e w' ⟨rfl, rfl⟩))
  all_goals
    refine abs_w (R := DI W (W.heap.size + 1) #[.int .i64 12, .int .i64 X, .int .i64 Y, .bool false, .int .i64 D, .int .i64 0, .int .i64 0, .int .i64 0, .int .i64 0, .int .i64 0, .int .i64 0, .int .i64 (fr : Nat), .int .i64 q, .int .i64 0, .int .i64 0]) ⟨?_, ?_, ?_, ?_⟩ (fun w5 I => ?_)
    · first | exact blk_al R0 _ | exact (blk_al (w := w0.drew) R0 _)
    · first | (rw [← hl1]; exact blk_at (w := w0)) | (rw [← hl1]; exact blk_at (w := w0.drew))
    · first | exact gb_trans (gb_trans G0 (World.grownBy_alloc w0 _ none)) (gb_drew _ _) | exact gb_trans (gb_trans G0 (gb_drew w0 _)) (World.grownBy_alloc w0.drew _ none)
    · omega
    have HI := Lib.hid I
    have ne1 : W.heap.size ≠ W.heap.size + 1 := by omega
    have ne2 : W.heap.size + 1 ≠ W.heap.size := by omega
    have a0 := blk_cell I.hd 0
    have a1 := blk_cell I.hd 1
    have a2 := blk_cell I.hd 2
    have a3 := blk_cell I.hd 3
    have a4 := blk_cell I.hd 4
    have a5 := blk_cell I.hd 5
    have a6 := blk_cell I.hd 6
    have a7 := blk_cell I.hd 7
    have a8 := blk_cell I.hd 8
    have a9 := blk_cell I.hd 9
    have a10 := blk_cell I.hd 10
    have a11 := blk_cell I.hd 11
    have a12 := blk_cell I.hd 12
    have a13 := blk_cell I.hd 13
    have a14 := blk_cell I.hd 14
    simp only [List.getElem?_toArray, List.getElem?_cons_succ, List.getElem?_cons_zero] at a0 a1 a2 a3 a4 a5 a6 a7 a8 a9 a10 a11 a12 a13 a14
    have hlx := blk_lt I.hd
    clear I
    clear G0 R0 hl1
    have KS0 := fun u => rside_calls X u
    rw [show sdV X = 3 from by unfold sdV; rw [if_neg (by omega), if_pos (by omega)]] at KS0
    have KS := Lib.hid KS0
    clear KS0
    have hE := Lib.hid (show shV fr X Y P D = badA 3 ((fr : Int) + 4) from by unfold shV; rw [if_neg (by omega), if_pos (by omega)])
    clear b0 b1
    go_wp2_with fail
    refine (KS.out _).mono ?_
    rintro e w' ⟨rfl, rfl⟩
    have KB := Lib.hid (fun u => rbad_calls 3 ((fr : Int) + 4) u)
    have hwp : IntKind.i64.wrap ((fr : Int) + 4) = (fr : Int) + 4 := IntWalk.i64_in _ (by omega)
    unfold badA at KB
    go_wp2_with fail
    refine (KS.out _).mono ?_
    rintro e w' ⟨rfl, rfl⟩
    go_wp2_with fail
    refine (KB.out _).mono ?_
    rintro e w9 ⟨rfl, g9⟩
    have B9 := old0 g9 HI.out.res (blk_lt HI.out.res) (by simp)
    have r0 := blk_cell B9 0
    have r1 := blk_cell B9 1
    have r2 := blk_cell B9 2
    have r3 := blk_cell B9 3
    have r4 := blk_cell B9 4
    have r5 := blk_cell B9 5
    have r6 := blk_cell B9 6
    have r7 := blk_cell B9 7
    have r8 := blk_cell B9 8
    have r9 := blk_cell B9 9
    have r10 := blk_cell B9 10
    have r11 := blk_cell B9 11
    have r12 := blk_cell B9 12
    have r13 := blk_cell B9 13
    have r14 := blk_cell B9 14
    have rf0 := blk_free B9 0
    have rf1 := blk_free B9 1
    have rf2 := blk_free B9 2
    have rf3 := blk_free B9 3
    have rf4 := blk_free B9 4
    have rf5 := blk_free B9 5
    have rf6 := blk_free B9 6
    have rf7 := blk_free B9 7
    have rf8 := blk_free B9 8
    have rf9 := blk_free B9 9
    have rf10 := blk_free B9 10
    have rf11 := blk_free B9 11
    have rf12 := blk_free B9 12
    have rf13 := blk_free B9 13
    have rf14 := blk_free B9 14
    simp only [List.getElem?_toArray, List.getElem?_cons_succ, List.getElem?_cons_zero] at r0 r1 r2 r3 r4 r5 r6 r7 r8 r9 r10 r11 r12 r13 r14
    have hlr := blk_lt B9
    have G9 := Lib.hid (gb_trans HI.out.gb g9)
    clear g9 B9 KB
    go_wp2
    refine bodyPost_ret (v := .agg (badA 3 ((fr : Int) + 4))) (by simp only [results, Tryd.results30, badA]; go_simp) rfl ⟨by rw [hE.out], ?_⟩
    exact gb_own (gb_own (gb_own (gb_own (gb_own (gb_own (gb_own (gb_own (gb_own (gb_own (gb_own (gb_own (gb_own (gb_own (gb_own (G9.out) (Nat.le_refl _) (gb_set _ _ _ _)) (Nat.le_refl _) (gb_set _ _ _ _)) (Nat.le_refl _) (gb_set _ _ _ _)) (Nat.le_refl _) (gb_set _ _ _ _)) (Nat.le_refl _) (gb_set _ _ _ _)) (Nat.le_refl _) (gb_set _ _ _ _)) (Nat.le_refl _) (gb_set _ _ _ _)) (Nat.le_refl _) (gb_set _ _ _ _)) (Nat.le_refl _) (gb_set _ _ _ _)) (Nat.le_refl _) (gb_set _ _ _ _)) (Nat.le_refl _) (gb_set _ _ _ _)) (Nat.le_refl _) (gb_set _ _ _ _)) (Nat.le_refl _) (gb_set _ _ _ _)) (Nat.le_refl _) (gb_set _ _ _ _)) (Nat.le_refl _) (gb_set _ _ _ _)

end Go.Proofs.YtikjfmpdfeaooaaDoor.Dh

/- The document's answer of a head of twelve bytes (c; written by wip/gen/di4.py). -/
namespace Go.Proofs.YtikjfmpdfeaooaaDoor.Dh
open Go.ChangeShapes Go.WideShapes Go.ChangeAt Go.RowKit
open Go.Proofs.YtikjfmpdfeaooaaDoor.Le Go.Proofs.YtikjfmpdfeaooaaDoor.Sr Go.Proofs.YtikjfmpdfeaooaaDoor.Ma
set_option linter.unusedVariables false

set_option maxRecDepth 100000 in
set_option maxHeartbeats 8000000 in
theorem rshort_c (z : ByteArray) (fr : Nat) (X Y P : Int) (W : World) (hzs : z.size = 12) (hfr : fr ≤ 4611686018427387904) (hX : ((w2 z 4 : Nat) : Int) = X) (hY : ((w2 z 6 : Nat) : Int) = Y) (hP : ((w2 z 8 : Nat) : Int) = P) (D : Int) (hD : ((w2 z 10 : Nat) : Int) = D) (b0 : ¬ X ≤ 0) (b1 : ¬ 16384 < X) (b2 : Y ≤ 0) :
    Calls Tryd.prog 30 #[.string z, .int .i64 (fr : Nat)] W fun e w' => e = .returned (.agg (shV fr X Y P D)) ∧ W.grownBy w' none := by
  have KX0 := fun u => le2_is z 4 (by omega) u
  have KY0 := fun u => le2_is z 6 (by omega) u
  have KD0 := fun u => le2_is z 10 (by omega) u
  have KP0 := fun u => le2_is z 8 (by omega) u
  rw [hX] at KX0
  rw [hY] at KY0
  rw [hD] at KD0
  rw [hP] at KP0
  have KX := Lib.hid KX0
  have KY := Lib.hid KY0
  have KD := Lib.hid KD0
  have KP := Lib.hid KP0
  have s1 : ∀ w, (Instr.slice 9 (.string z) (some (.int .i64 4)) (some (.int .i64 6)) none).run Tryd.prog w = .ok (.string (z.extract 4 (4 + 2))) w := fun w => cut_at z 4 2 (by omega) w
  have s2 : ∀ w, (Instr.slice 9 (.string z) (some (.int .i64 6)) (some (.int .i64 8)) none).run Tryd.prog w = .ok (.string (z.extract 6 (6 + 2))) w := fun w => cut_at z 6 2 (by omega) w
  have s3 : ∀ w, (Instr.slice 9 (.string z) (some (.int .i64 10)) (some (.int .i64 12)) none).run Tryd.prog w = .ok (.string (z.extract 10 (10 + 2))) w := fun w => cut_at z 10 2 (by omega) w
  have s4 : ∀ w, (Instr.slice 9 (.string z) (some (.int .i64 8)) (some (.int .i64 10)) none).run Tryd.prog w = .ok (.string (z.extract 8 (8 + 2))) w := fun w => cut_at z 8 2 (by omega) w
  obtain ⟨q, hq⟩ : ∃ q : Int, ((fr + 12 : Nat) : Int) = q := ⟨_, rfl⟩
  have wq : IntKind.i64.wrap ((fr : Int) + 12) = q := by rw [IntWalk.i64_in _ (by omega)]; omega
  have HQ := Lib.hid hq
  clear KX0 KY0 KD0 KP0 hX hY hP hD hq hzs
  go_enter Tryd.func30, Tryd.ntmps30
  go_upto_region 1 with fail
  have hl1 : (W.alloc (.cells #[.int .i64 0, .int .i64 0, .int .i64 0, .bool false, .int .i64 0, .int .i64 0, .int .i64 0, .int .i64 0, .int .i64 0, .int .i64 0, .int .i64 0, .int .i64 0, .int .i64 0, .int .i64 0, .int .i64 0] 37)).heap.size = W.heap.size + 1 := size_alloc _ _
  have R0 := blk_at (w := W) (o := .cells #[.int .i64 0, .int .i64 0, .int .i64 0, .bool false, .int .i64 0, .int .i64 0, .int .i64 0, .int .i64 0, .int .i64 0, .int .i64 0, .int .i64 0, .int .i64 0, .int .i64 0, .int .i64 0, .int .i64 0] 37)
  have G0 := World.grownBy_alloc W (.cells #[.int .i64 0, .int .i64 0, .int .i64 0, .bool false, .int .i64 0, .int .i64 0, .int .i64 0, .int .i64 0, .int .i64 0, .int .i64 0, .int .i64 0, .int .i64 0, .int .i64 0, .int .i64 0, .int .i64 0] 37) none
  generalize W.alloc (.cells #[.int .i64 0, .int .i64 0, .int .i64 0, .bool false, .int .i64 0, .int .i64 0, .int .i64 0, .int .i64 0, .int .i64 0, .int .i64 0, .int .i64 0, .int .i64 0, .int .i64 0, .int .i64 0, .int .i64 0] 37) = w0 at R0 G0 hl1 ⊢
  go_region_held3 (fun _ => True) (trivial)
    (first
      | (go_at_call 29; with_reducible refine (KX.out _).mono ?_; rintro e w' ⟨rfl, rfl⟩)
      | (go_at_call 29; with_reducible refine (KY.out _).mono ?_; rintro e w' ⟨rfl, rfl⟩)
      | (go_at_call 29; with_reducible refine (KD.out _).mono ?_; rintro e w' ⟨rfl, rfl⟩))
  all_goals
    refine abs_w (R := DI W (W.heap.size + 1) #[.int .i64 12, .int .i64 X, .int .i64 Y, .bool false, .int .i64 D, .int .i64 0, .int .i64 0, .int .i64 0, .int .i64 0, .int .i64 0, .int .i64 0, .int .i64 (fr : Nat), .int .i64 q, .int .i64 0, .int .i64 0]) ⟨?_, ?_, ?_, ?_⟩ (fun w5 I => ?_)
    · first | exact blk_al R0 _ | exact (blk_al (w := w0.drew) R0 _)
    · first | (rw [← hl1]; exact blk_at (w := w0)) | (rw [← hl1]; exact blk_at (w := w0.drew))
    · first | exact gb_trans (gb_trans G0 (World.grownBy_alloc w0 _ none)) (gb_drew _ _) | exact gb_trans (gb_trans G0 (gb_drew w0 _)) (World.grownBy_alloc w0.drew _ none)
    · omega
    have HI := Lib.hid I
    have ne1 : W.heap.size ≠ W.heap.size + 1 := by omega
    have ne2 : W.heap.size + 1 ≠ W.heap.size := by omega
    have a0 := blk_cell I.hd 0
    have a1 := blk_cell I.hd 1
    have a2 := blk_cell I.hd 2
    have a3 := blk_cell I.hd 3
    have a4 := blk_cell I.hd 4
    have a5 := blk_cell I.hd 5
    have a6 := blk_cell I.hd 6
    have a7 := blk_cell I.hd 7
    have a8 := blk_cell I.hd 8
    have a9 := blk_cell I.hd 9
    have a10 := blk_cell I.hd 10
    have a11 := blk_cell I.hd 11
    have a12 := blk_cell I.hd 12
    have a13 := blk_cell I.hd 13
    have a14 := blk_cell I.hd 14
    simp only [List.getElem?_toArray, List.getElem?_cons_succ, List.getElem?_cons_zero] at a0 a1 a2 a3 a4 a5 a6 a7 a8 a9 a10 a11 a12 a13 a14
    have hlx := blk_lt I.hd
    clear I
    clear G0 R0 hl1
    have KSX0 := fun u => rside_calls X u
    rw [show sdV X = 0 from by unfold sdV; rw [if_neg (by omega), if_neg (by omega)]] at KSX0
    have KSX := Lib.hid KSX0
    clear KSX0
    go_wp2_with fail
    refine (KSX.out _).mono ?_
    rintro e w' ⟨rfl, rfl⟩
    have KS0 := fun u => rside_calls Y u
    rw [show sdV Y = 2 from by unfold sdV; rw [if_pos (by omega)]] at KS0
    have KS := Lib.hid KS0
    clear KS0
    have hE := Lib.hid (show shV fr X Y P D = badA 2 ((fr : Int) + 6) from by unfold shV; rw [if_neg (by omega), if_neg (by omega), if_pos (by omega)])
    clear b0 b1 b2
    go_wp2_with fail
    refine (KS.out _).mono ?_
    rintro e w' ⟨rfl, rfl⟩
    have KB := Lib.hid (fun u => rbad_calls 2 ((fr : Int) + 6) u)
    have hwp : IntKind.i64.wrap ((fr : Int) + 6) = (fr : Int) + 6 := IntWalk.i64_in _ (by omega)
    unfold badA at KB
    go_wp2_with fail
    refine (KS.out _).mono ?_
    rintro e w' ⟨rfl, rfl⟩
    go_wp2_with fail
    refine (KB.out _).mono ?_
    rintro e w9 ⟨rfl, g9⟩
    have B9 := old0 g9 HI.out.res (blk_lt HI.out.res) (by simp)
    have r0 := blk_cell B9 0
    have r1 := blk_cell B9 1
    have r2 := blk_cell B9 2
    have r3 := blk_cell B9 3
    have r4 := blk_cell B9 4
    have r5 := blk_cell B9 5
    have r6 := blk_cell B9 6
    have r7 := blk_cell B9 7
    have r8 := blk_cell B9 8
    have r9 := blk_cell B9 9
    have r10 := blk_cell B9 10
    have r11 := blk_cell B9 11
    have r12 := blk_cell B9 12
    have r13 := blk_cell B9 13
    have r14 := blk_cell B9 14
    have rf0 := blk_free B9 0
    have rf1 := blk_free B9 1
    have rf2 := blk_free B9 2
    have rf3 := blk_free B9 3
    have rf4 := blk_free B9 4
    have rf5 := blk_free B9 5
    have rf6 := blk_free B9 6
    have rf7 := blk_free B9 7
    have rf8 := blk_free B9 8
    have rf9 := blk_free B9 9
    have rf10 := blk_free B9 10
    have rf11 := blk_free B9 11
    have rf12 := blk_free B9 12
    have rf13 := blk_free B9 13
    have rf14 := blk_free B9 14
    simp only [List.getElem?_toArray, List.getElem?_cons_succ, List.getElem?_cons_zero] at r0 r1 r2 r3 r4 r5 r6 r7 r8 r9 r10 r11 r12 r13 r14
    have hlr := blk_lt B9
    have G9 := Lib.hid (gb_trans HI.out.gb g9)
    clear g9 B9 KB
    go_wp2
    refine bodyPost_ret (v := .agg (badA 2 ((fr : Int) + 6))) (by simp only [results, Tryd.results30, badA]; go_simp) rfl ⟨by rw [hE.out], ?_⟩
    exact gb_own (gb_own (gb_own (gb_own (gb_own (gb_own (gb_own (gb_own (gb_own (gb_own (gb_own (gb_own (gb_own (gb_own (gb_own (G9.out) (Nat.le_refl _) (gb_set _ _ _ _)) (Nat.le_refl _) (gb_set _ _ _ _)) (Nat.le_refl _) (gb_set _ _ _ _)) (Nat.le_refl _) (gb_set _ _ _ _)) (Nat.le_refl _) (gb_set _ _ _ _)) (Nat.le_refl _) (gb_set _ _ _ _)) (Nat.le_refl _) (gb_set _ _ _ _)) (Nat.le_refl _) (gb_set _ _ _ _)) (Nat.le_refl _) (gb_set _ _ _ _)) (Nat.le_refl _) (gb_set _ _ _ _)) (Nat.le_refl _) (gb_set _ _ _ _)) (Nat.le_refl _) (gb_set _ _ _ _)) (Nat.le_refl _) (gb_set _ _ _ _)) (Nat.le_refl _) (gb_set _ _ _ _)) (Nat.le_refl _) (gb_set _ _ _ _)

end Go.Proofs.YtikjfmpdfeaooaaDoor.Dh

/- The document's answer of a head of twelve bytes (d; written by wip/gen/di4.py). -/
namespace Go.Proofs.YtikjfmpdfeaooaaDoor.Dh
open Go.ChangeShapes Go.WideShapes Go.ChangeAt Go.RowKit
open Go.Proofs.YtikjfmpdfeaooaaDoor.Le Go.Proofs.YtikjfmpdfeaooaaDoor.Sr Go.Proofs.YtikjfmpdfeaooaaDoor.Ma
set_option linter.unusedVariables false

set_option maxRecDepth 100000 in
set_option maxHeartbeats 8000000 in
theorem rshort_d (z : ByteArray) (fr : Nat) (X Y P : Int) (W : World) (hzs : z.size = 12) (hfr : fr ≤ 4611686018427387904) (hX : ((w2 z 4 : Nat) : Int) = X) (hY : ((w2 z 6 : Nat) : Int) = Y) (hP : ((w2 z 8 : Nat) : Int) = P) (D : Int) (hD : ((w2 z 10 : Nat) : Int) = D) (b0 : ¬ X ≤ 0) (b1 : ¬ 16384 < X) (b2 : ¬ Y ≤ 0) (b3 : 16384 < Y) :
    Calls Tryd.prog 30 #[.string z, .int .i64 (fr : Nat)] W fun e w' => e = .returned (.agg (shV fr X Y P D)) ∧ W.grownBy w' none := by
  have KX0 := fun u => le2_is z 4 (by omega) u
  have KY0 := fun u => le2_is z 6 (by omega) u
  have KD0 := fun u => le2_is z 10 (by omega) u
  have KP0 := fun u => le2_is z 8 (by omega) u
  rw [hX] at KX0
  rw [hY] at KY0
  rw [hD] at KD0
  rw [hP] at KP0
  have KX := Lib.hid KX0
  have KY := Lib.hid KY0
  have KD := Lib.hid KD0
  have KP := Lib.hid KP0
  have s1 : ∀ w, (Instr.slice 9 (.string z) (some (.int .i64 4)) (some (.int .i64 6)) none).run Tryd.prog w = .ok (.string (z.extract 4 (4 + 2))) w := fun w => cut_at z 4 2 (by omega) w
  have s2 : ∀ w, (Instr.slice 9 (.string z) (some (.int .i64 6)) (some (.int .i64 8)) none).run Tryd.prog w = .ok (.string (z.extract 6 (6 + 2))) w := fun w => cut_at z 6 2 (by omega) w
  have s3 : ∀ w, (Instr.slice 9 (.string z) (some (.int .i64 10)) (some (.int .i64 12)) none).run Tryd.prog w = .ok (.string (z.extract 10 (10 + 2))) w := fun w => cut_at z 10 2 (by omega) w
  have s4 : ∀ w, (Instr.slice 9 (.string z) (some (.int .i64 8)) (some (.int .i64 10)) none).run Tryd.prog w = .ok (.string (z.extract 8 (8 + 2))) w := fun w => cut_at z 8 2 (by omega) w
  obtain ⟨q, hq⟩ : ∃ q : Int, ((fr + 12 : Nat) : Int) = q := ⟨_, rfl⟩
  have wq : IntKind.i64.wrap ((fr : Int) + 12) = q := by rw [IntWalk.i64_in _ (by omega)]; omega
  have HQ := Lib.hid hq
  clear KX0 KY0 KD0 KP0 hX hY hP hD hq hzs
  go_enter Tryd.func30, Tryd.ntmps30
  go_upto_region 1 with fail
  have hl1 : (W.alloc (.cells #[.int .i64 0, .int .i64 0, .int .i64 0, .bool false, .int .i64 0, .int .i64 0, .int .i64 0, .int .i64 0, .int .i64 0, .int .i64 0, .int .i64 0, .int .i64 0, .int .i64 0, .int .i64 0, .int .i64 0] 37)).heap.size = W.heap.size + 1 := size_alloc _ _
  have R0 := blk_at (w := W) (o := .cells #[.int .i64 0, .int .i64 0, .int .i64 0, .bool false, .int .i64 0, .int .i64 0, .int .i64 0, .int .i64 0, .int .i64 0, .int .i64 0, .int .i64 0, .int .i64 0, .int .i64 0, .int .i64 0, .int .i64 0] 37)
  have G0 := World.grownBy_alloc W (.cells #[.int .i64 0, .int .i64 0, .int .i64 0, .bool false, .int .i64 0, .int .i64 0, .int .i64 0, .int .i64 0, .int .i64 0, .int .i64 0, .int .i64 0, .int .i64 0, .int .i64 0, .int .i64 0, .int .i64 0] 37) none
  generalize W.alloc (.cells #[.int .i64 0, .int .i64 0, .int .i64 0, .bool false, .int .i64 0, .int .i64 0, .int .i64 0, .int .i64 0, .int .i64 0, .int .i64 0, .int .i64 0, .int .i64 0, .int .i64 0, .int .i64 0, .int .i64 0] 37) = w0 at R0 G0 hl1 ⊢
  go_region_held3 (fun _ => True) (trivial)
    (first
      | (go_at_call 29; with_reducible refine (KX.out _).mono ?_; rintro e w' ⟨rfl, rfl⟩)
      | (go_at_call 29; with_reducible refine (KY.out _).mono ?_; rintro e w' ⟨rfl, rfl⟩)
      | (go_at_call 29; with_reducible refine (KD.out _).mono ?_; rintro e w' ⟨rfl, rfl⟩))
  all_goals
    refine abs_w (R := DI W (W.heap.size + 1) #[.int .i64 12, .int .i64 X, .int .i64 Y, .bool false, .int .i64 D, .int .i64 0, .int .i64 0, .int .i64 0, .int .i64 0, .int .i64 0, .int .i64 0, .int .i64 (fr : Nat), .int .i64 q, .int .i64 0, .int .i64 0]) ⟨?_, ?_, ?_, ?_⟩ (fun w5 I => ?_)
    · first | exact blk_al R0 _ | exact (blk_al (w := w0.drew) R0 _)
    · first | (rw [← hl1]; exact blk_at (w := w0)) | (rw [← hl1]; exact blk_at (w := w0.drew))
    · first | exact gb_trans (gb_trans G0 (World.grownBy_alloc w0 _ none)) (gb_drew _ _) | exact gb_trans (gb_trans G0 (gb_drew w0 _)) (World.grownBy_alloc w0.drew _ none)
    · omega
    have HI := Lib.hid I
    have ne1 : W.heap.size ≠ W.heap.size + 1 := by omega
    have ne2 : W.heap.size + 1 ≠ W.heap.size := by omega
    have a0 := blk_cell I.hd 0
    have a1 := blk_cell I.hd 1
    have a2 := blk_cell I.hd 2
    have a3 := blk_cell I.hd 3
    have a4 := blk_cell I.hd 4
    have a5 := blk_cell I.hd 5
    have a6 := blk_cell I.hd 6
    have a7 := blk_cell I.hd 7
    have a8 := blk_cell I.hd 8
    have a9 := blk_cell I.hd 9
    have a10 := blk_cell I.hd 10
    have a11 := blk_cell I.hd 11
    have a12 := blk_cell I.hd 12
    have a13 := blk_cell I.hd 13
    have a14 := blk_cell I.hd 14
    simp only [List.getElem?_toArray, List.getElem?_cons_succ, List.getElem?_cons_zero] at a0 a1 a2 a3 a4 a5 a6 a7 a8 a9 a10 a11 a12 a13 a14
    have hlx := blk_lt I.hd
    clear I
    clear G0 R0 hl1
    have KSX0 := fun u => rside_calls X u
    rw [show sdV X = 0 from by unfold sdV; rw [if_neg (by omega), if_neg (by omega)]] at KSX0
    have KSX := Lib.hid KSX0
    clear KSX0
    go_wp2_with fail
    refine (KSX.out _).mono ?_
    rintro e w' ⟨rfl, rfl⟩
    have KS0 := fun u => rside_calls Y u
    rw [show sdV Y = 3 from by unfold sdV; rw [if_neg (by omega), if_pos (by omega)]] at KS0
    have KS := Lib.hid KS0
    clear KS0
    have hE := Lib.hid (show shV fr X Y P D = badA 3 ((fr : Int) + 6) from by unfold shV; rw [if_neg (by omega), if_neg (by omega), if_neg (by omega), if_pos (by omega)])
    clear b0 b1 b2 b3
    go_wp2_with fail
    refine (KS.out _).mono ?_
    rintro e w' ⟨rfl, rfl⟩
    have KB := Lib.hid (fun u => rbad_calls 3 ((fr : Int) + 6) u)
    have hwp : IntKind.i64.wrap ((fr : Int) + 6) = (fr : Int) + 6 := IntWalk.i64_in _ (by omega)
    unfold badA at KB
    go_wp2_with fail
    refine (KS.out _).mono ?_
    rintro e w' ⟨rfl, rfl⟩
    go_wp2_with fail
    refine (KB.out _).mono ?_
    rintro e w9 ⟨rfl, g9⟩
    have B9 := old0 g9 HI.out.res (blk_lt HI.out.res) (by simp)
    have r0 := blk_cell B9 0
    have r1 := blk_cell B9 1
    have r2 := blk_cell B9 2
    have r3 := blk_cell B9 3
    have r4 := blk_cell B9 4
    have r5 := blk_cell B9 5
    have r6 := blk_cell B9 6
    have r7 := blk_cell B9 7
    have r8 := blk_cell B9 8
    have r9 := blk_cell B9 9
    have r10 := blk_cell B9 10
    have r11 := blk_cell B9 11
    have r12 := blk_cell B9 12
    have r13 := blk_cell B9 13
    have r14 := blk_cell B9 14
    have rf0 := blk_free B9 0
    have rf1 := blk_free B9 1
    have rf2 := blk_free B9 2
    have rf3 := blk_free B9 3
    have rf4 := blk_free B9 4
    have rf5 := blk_free B9 5
    have rf6 := blk_free B9 6
    have rf7 := blk_free B9 7
    have rf8 := blk_free B9 8
    have rf9 := blk_free B9 9
    have rf10 := blk_free B9 10
    have rf11 := blk_free B9 11
    have rf12 := blk_free B9 12
    have rf13 := blk_free B9 13
    have rf14 := blk_free B9 14
    simp only [List.getElem?_toArray, List.getElem?_cons_succ, List.getElem?_cons_zero] at r0 r1 r2 r3 r4 r5 r6 r7 r8 r9 r10 r11 r12 r13 r14
    have hlr := blk_lt B9
    have G9 := Lib.hid (gb_trans HI.out.gb g9)
    clear g9 B9 KB
    go_wp2
    refine bodyPost_ret (v := .agg (badA 3 ((fr : Int) + 6))) (by simp only [results, Tryd.results30, badA]; go_simp) rfl ⟨by rw [hE.out], ?_⟩
    exact gb_own (gb_own (gb_own (gb_own (gb_own (gb_own (gb_own (gb_own (gb_own (gb_own (gb_own (gb_own (gb_own (gb_own (gb_own (G9.out) (Nat.le_refl _) (gb_set _ _ _ _)) (Nat.le_refl _) (gb_set _ _ _ _)) (Nat.le_refl _) (gb_set _ _ _ _)) (Nat.le_refl _) (gb_set _ _ _ _)) (Nat.le_refl _) (gb_set _ _ _ _)) (Nat.le_refl _) (gb_set _ _ _ _)) (Nat.le_refl _) (gb_set _ _ _ _)) (Nat.le_refl _) (gb_set _ _ _ _)) (Nat.le_refl _) (gb_set _ _ _ _)) (Nat.le_refl _) (gb_set _ _ _ _)) (Nat.le_refl _) (gb_set _ _ _ _)) (Nat.le_refl _) (gb_set _ _ _ _)) (Nat.le_refl _) (gb_set _ _ _ _)) (Nat.le_refl _) (gb_set _ _ _ _)) (Nat.le_refl _) (gb_set _ _ _ _)

end Go.Proofs.YtikjfmpdfeaooaaDoor.Dh

/- The document's answer of a head of twelve bytes (e; written by wip/gen/di4.py). -/
namespace Go.Proofs.YtikjfmpdfeaooaaDoor.Dh
open Go.ChangeShapes Go.WideShapes Go.ChangeAt Go.RowKit
open Go.Proofs.YtikjfmpdfeaooaaDoor.Le Go.Proofs.YtikjfmpdfeaooaaDoor.Sr Go.Proofs.YtikjfmpdfeaooaaDoor.Ma
set_option linter.unusedVariables false

set_option maxRecDepth 100000 in
set_option maxHeartbeats 8000000 in
theorem rshort_e (z : ByteArray) (fr : Nat) (X Y P : Int) (W : World) (hzs : z.size = 12) (hfr : fr ≤ 4611686018427387904) (hX : ((w2 z 4 : Nat) : Int) = X) (hY : ((w2 z 6 : Nat) : Int) = Y) (hP : ((w2 z 8 : Nat) : Int) = P) (D : Int) (hD : ((w2 z 10 : Nat) : Int) = D) (b0 : ¬ X ≤ 0) (b1 : ¬ 16384 < X) (b2 : ¬ Y ≤ 0) (b3 : ¬ 16384 < Y) (b4 : P ≠ 1) :
    Calls Tryd.prog 30 #[.string z, .int .i64 (fr : Nat)] W fun e w' => e = .returned (.agg (shV fr X Y P D)) ∧ W.grownBy w' none := by
  have KX0 := fun u => le2_is z 4 (by omega) u
  have KY0 := fun u => le2_is z 6 (by omega) u
  have KD0 := fun u => le2_is z 10 (by omega) u
  have KP0 := fun u => le2_is z 8 (by omega) u
  rw [hX] at KX0
  rw [hY] at KY0
  rw [hD] at KD0
  rw [hP] at KP0
  have KX := Lib.hid KX0
  have KY := Lib.hid KY0
  have KD := Lib.hid KD0
  have KP := Lib.hid KP0
  have s1 : ∀ w, (Instr.slice 9 (.string z) (some (.int .i64 4)) (some (.int .i64 6)) none).run Tryd.prog w = .ok (.string (z.extract 4 (4 + 2))) w := fun w => cut_at z 4 2 (by omega) w
  have s2 : ∀ w, (Instr.slice 9 (.string z) (some (.int .i64 6)) (some (.int .i64 8)) none).run Tryd.prog w = .ok (.string (z.extract 6 (6 + 2))) w := fun w => cut_at z 6 2 (by omega) w
  have s3 : ∀ w, (Instr.slice 9 (.string z) (some (.int .i64 10)) (some (.int .i64 12)) none).run Tryd.prog w = .ok (.string (z.extract 10 (10 + 2))) w := fun w => cut_at z 10 2 (by omega) w
  have s4 : ∀ w, (Instr.slice 9 (.string z) (some (.int .i64 8)) (some (.int .i64 10)) none).run Tryd.prog w = .ok (.string (z.extract 8 (8 + 2))) w := fun w => cut_at z 8 2 (by omega) w
  obtain ⟨q, hq⟩ : ∃ q : Int, ((fr + 12 : Nat) : Int) = q := ⟨_, rfl⟩
  have wq : IntKind.i64.wrap ((fr : Int) + 12) = q := by rw [IntWalk.i64_in _ (by omega)]; omega
  have HQ := Lib.hid hq
  clear KX0 KY0 KD0 KP0 hX hY hP hD hq hzs
  go_enter Tryd.func30, Tryd.ntmps30
  go_upto_region 1 with fail
  have hl1 : (W.alloc (.cells #[.int .i64 0, .int .i64 0, .int .i64 0, .bool false, .int .i64 0, .int .i64 0, .int .i64 0, .int .i64 0, .int .i64 0, .int .i64 0, .int .i64 0, .int .i64 0, .int .i64 0, .int .i64 0, .int .i64 0] 37)).heap.size = W.heap.size + 1 := size_alloc _ _
  have R0 := blk_at (w := W) (o := .cells #[.int .i64 0, .int .i64 0, .int .i64 0, .bool false, .int .i64 0, .int .i64 0, .int .i64 0, .int .i64 0, .int .i64 0, .int .i64 0, .int .i64 0, .int .i64 0, .int .i64 0, .int .i64 0, .int .i64 0] 37)
  have G0 := World.grownBy_alloc W (.cells #[.int .i64 0, .int .i64 0, .int .i64 0, .bool false, .int .i64 0, .int .i64 0, .int .i64 0, .int .i64 0, .int .i64 0, .int .i64 0, .int .i64 0, .int .i64 0, .int .i64 0, .int .i64 0, .int .i64 0] 37) none
  generalize W.alloc (.cells #[.int .i64 0, .int .i64 0, .int .i64 0, .bool false, .int .i64 0, .int .i64 0, .int .i64 0, .int .i64 0, .int .i64 0, .int .i64 0, .int .i64 0, .int .i64 0, .int .i64 0, .int .i64 0, .int .i64 0] 37) = w0 at R0 G0 hl1 ⊢
  go_region_held3 (fun _ => True) (trivial)
    (first
      | (go_at_call 29; with_reducible refine (KX.out _).mono ?_; rintro e w' ⟨rfl, rfl⟩)
      | (go_at_call 29; with_reducible refine (KY.out _).mono ?_; rintro e w' ⟨rfl, rfl⟩)
      | (go_at_call 29; with_reducible refine (KD.out _).mono ?_; rintro e w' ⟨rfl, rfl⟩))
  all_goals
    refine abs_w (R := DI W (W.heap.size + 1) #[.int .i64 12, .int .i64 X, .int .i64 Y, .bool false, .int .i64 D, .int .i64 0, .int .i64 0, .int .i64 0, .int .i64 0, .int .i64 0, .int .i64 0, .int .i64 (fr : Nat), .int .i64 q, .int .i64 0, .int .i64 0]) ⟨?_, ?_, ?_, ?_⟩ (fun w5 I => ?_)
    · first | exact blk_al R0 _ | exact (blk_al (w := w0.drew) R0 _)
    · first | (rw [← hl1]; exact blk_at (w := w0)) | (rw [← hl1]; exact blk_at (w := w0.drew))
    · first | exact gb_trans (gb_trans G0 (World.grownBy_alloc w0 _ none)) (gb_drew _ _) | exact gb_trans (gb_trans G0 (gb_drew w0 _)) (World.grownBy_alloc w0.drew _ none)
    · omega
    have HI := Lib.hid I
    have ne1 : W.heap.size ≠ W.heap.size + 1 := by omega
    have ne2 : W.heap.size + 1 ≠ W.heap.size := by omega
    have a0 := blk_cell I.hd 0
    have a1 := blk_cell I.hd 1
    have a2 := blk_cell I.hd 2
    have a3 := blk_cell I.hd 3
    have a4 := blk_cell I.hd 4
    have a5 := blk_cell I.hd 5
    have a6 := blk_cell I.hd 6
    have a7 := blk_cell I.hd 7
    have a8 := blk_cell I.hd 8
    have a9 := blk_cell I.hd 9
    have a10 := blk_cell I.hd 10
    have a11 := blk_cell I.hd 11
    have a12 := blk_cell I.hd 12
    have a13 := blk_cell I.hd 13
    have a14 := blk_cell I.hd 14
    simp only [List.getElem?_toArray, List.getElem?_cons_succ, List.getElem?_cons_zero] at a0 a1 a2 a3 a4 a5 a6 a7 a8 a9 a10 a11 a12 a13 a14
    have hlx := blk_lt I.hd
    clear I
    clear G0 R0 hl1
    have KSX0 := fun u => rside_calls X u
    rw [show sdV X = 0 from by unfold sdV; rw [if_neg (by omega), if_neg (by omega)]] at KSX0
    have KSX := Lib.hid KSX0
    clear KSX0
    go_wp2_with fail
    refine (KSX.out _).mono ?_
    rintro e w' ⟨rfl, rfl⟩
    have KSY0 := fun u => rside_calls Y u
    rw [show sdV Y = 0 from by unfold sdV; rw [if_neg (by omega), if_neg (by omega)]] at KSY0
    have KSY := Lib.hid KSY0
    clear KSY0
    go_wp2_with fail
    refine (KSY.out _).mono ?_
    rintro e w' ⟨rfl, rfl⟩
    go_wp2_with fail
    refine (KP.out _).mono ?_
    rintro e w' ⟨rfl, rfl⟩
    have h : (P != 1) = true := by rw [bne_iff_ne]; omega
    have hE := Lib.hid (show shV fr X Y P D = badA 2 ((fr : Int) + 8) from by unfold shV; rw [if_neg (by omega), if_neg (by omega), if_neg (by omega), if_neg (by omega), if_pos (by omega)])
    clear b0 b1 b2 b3 b4
    have KB := Lib.hid (fun u => rbad_calls 2 ((fr : Int) + 8) u)
    have hwp : IntKind.i64.wrap ((fr : Int) + 8) = (fr : Int) + 8 := IntWalk.i64_in _ (by omega)
    unfold badA at KB
    go_wp2_with fail

    

    refine (KB.out _).mono ?_
    rintro e w9 ⟨rfl, g9⟩
    have B9 := old0 g9 HI.out.res (blk_lt HI.out.res) (by simp)
    have r0 := blk_cell B9 0
    have r1 := blk_cell B9 1
    have r2 := blk_cell B9 2
    have r3 := blk_cell B9 3
    have r4 := blk_cell B9 4
    have r5 := blk_cell B9 5
    have r6 := blk_cell B9 6
    have r7 := blk_cell B9 7
    have r8 := blk_cell B9 8
    have r9 := blk_cell B9 9
    have r10 := blk_cell B9 10
    have r11 := blk_cell B9 11
    have r12 := blk_cell B9 12
    have r13 := blk_cell B9 13
    have r14 := blk_cell B9 14
    have rf0 := blk_free B9 0
    have rf1 := blk_free B9 1
    have rf2 := blk_free B9 2
    have rf3 := blk_free B9 3
    have rf4 := blk_free B9 4
    have rf5 := blk_free B9 5
    have rf6 := blk_free B9 6
    have rf7 := blk_free B9 7
    have rf8 := blk_free B9 8
    have rf9 := blk_free B9 9
    have rf10 := blk_free B9 10
    have rf11 := blk_free B9 11
    have rf12 := blk_free B9 12
    have rf13 := blk_free B9 13
    have rf14 := blk_free B9 14
    simp only [List.getElem?_toArray, List.getElem?_cons_succ, List.getElem?_cons_zero] at r0 r1 r2 r3 r4 r5 r6 r7 r8 r9 r10 r11 r12 r13 r14
    have hlr := blk_lt B9
    have G9 := Lib.hid (gb_trans HI.out.gb g9)
    clear g9 B9 KB
    go_wp2
    refine bodyPost_ret (v := .agg (badA 2 ((fr : Int) + 8))) (by simp only [results, Tryd.results30, badA]; go_simp) rfl ⟨by rw [hE.out], ?_⟩
    exact gb_own (gb_own (gb_own (gb_own (gb_own (gb_own (gb_own (gb_own (gb_own (gb_own (gb_own (gb_own (gb_own (gb_own (gb_own (G9.out) (Nat.le_refl _) (gb_set _ _ _ _)) (Nat.le_refl _) (gb_set _ _ _ _)) (Nat.le_refl _) (gb_set _ _ _ _)) (Nat.le_refl _) (gb_set _ _ _ _)) (Nat.le_refl _) (gb_set _ _ _ _)) (Nat.le_refl _) (gb_set _ _ _ _)) (Nat.le_refl _) (gb_set _ _ _ _)) (Nat.le_refl _) (gb_set _ _ _ _)) (Nat.le_refl _) (gb_set _ _ _ _)) (Nat.le_refl _) (gb_set _ _ _ _)) (Nat.le_refl _) (gb_set _ _ _ _)) (Nat.le_refl _) (gb_set _ _ _ _)) (Nat.le_refl _) (gb_set _ _ _ _)) (Nat.le_refl _) (gb_set _ _ _ _)) (Nat.le_refl _) (gb_set _ _ _ _)

end Go.Proofs.YtikjfmpdfeaooaaDoor.Dh

/- The document's answer of a head of twelve bytes (f; written by wip/gen/di4.py). -/
namespace Go.Proofs.YtikjfmpdfeaooaaDoor.Dh
open Go.ChangeShapes Go.WideShapes Go.ChangeAt Go.RowKit
open Go.Proofs.YtikjfmpdfeaooaaDoor.Le Go.Proofs.YtikjfmpdfeaooaaDoor.Sr Go.Proofs.YtikjfmpdfeaooaaDoor.Ma
set_option linter.unusedVariables false

set_option maxRecDepth 100000 in
set_option maxHeartbeats 8000000 in
theorem rshort_f (z : ByteArray) (fr : Nat) (X Y P : Int) (W : World) (hzs : z.size = 12) (hfr : fr ≤ 4611686018427387904) (hX : ((w2 z 4 : Nat) : Int) = X) (hY : ((w2 z 6 : Nat) : Int) = Y) (hP : ((w2 z 8 : Nat) : Int) = P) (D : Int) (hD : ((w2 z 10 : Nat) : Int) = D) (b0 : ¬ X ≤ 0) (b1 : ¬ 16384 < X) (b2 : ¬ Y ≤ 0) (b3 : ¬ 16384 < Y) (b4 : P = 1) (b5 : D = 16) :
    Calls Tryd.prog 30 #[.string z, .int .i64 (fr : Nat)] W fun e w' => e = .returned (.agg (shV fr X Y P D)) ∧ W.grownBy w' none := by
  have Hb4 := Lib.hid b4
  clear b4
  have Hb5 := Lib.hid b5
  clear b5
  have KX0 := fun u => le2_is z 4 (by omega) u
  have KY0 := fun u => le2_is z 6 (by omega) u
  have KD0 := fun u => le2_is z 10 (by omega) u
  have KP0 := fun u => le2_is z 8 (by omega) u
  rw [hX] at KX0
  rw [hY] at KY0
  rw [hD] at KD0
  rw [hP] at KP0
  have KX := Lib.hid KX0
  have KY := Lib.hid KY0
  have KD := Lib.hid KD0
  have KP := Lib.hid KP0
  have s1 : ∀ w, (Instr.slice 9 (.string z) (some (.int .i64 4)) (some (.int .i64 6)) none).run Tryd.prog w = .ok (.string (z.extract 4 (4 + 2))) w := fun w => cut_at z 4 2 (by omega) w
  have s2 : ∀ w, (Instr.slice 9 (.string z) (some (.int .i64 6)) (some (.int .i64 8)) none).run Tryd.prog w = .ok (.string (z.extract 6 (6 + 2))) w := fun w => cut_at z 6 2 (by omega) w
  have s3 : ∀ w, (Instr.slice 9 (.string z) (some (.int .i64 10)) (some (.int .i64 12)) none).run Tryd.prog w = .ok (.string (z.extract 10 (10 + 2))) w := fun w => cut_at z 10 2 (by omega) w
  have s4 : ∀ w, (Instr.slice 9 (.string z) (some (.int .i64 8)) (some (.int .i64 10)) none).run Tryd.prog w = .ok (.string (z.extract 8 (8 + 2))) w := fun w => cut_at z 8 2 (by omega) w
  obtain ⟨q, hq⟩ : ∃ q : Int, ((fr + 12 : Nat) : Int) = q := ⟨_, rfl⟩
  have wq : IntKind.i64.wrap ((fr : Int) + 12) = q := by rw [IntWalk.i64_in _ (by omega)]; omega
  have HQ := Lib.hid hq
  clear KX0 KY0 KD0 KP0 hX hY hP hD hq hzs
  go_enter Tryd.func30, Tryd.ntmps30
  go_upto_region 1 with fail
  have hl1 : (W.alloc (.cells #[.int .i64 0, .int .i64 0, .int .i64 0, .bool false, .int .i64 0, .int .i64 0, .int .i64 0, .int .i64 0, .int .i64 0, .int .i64 0, .int .i64 0, .int .i64 0, .int .i64 0, .int .i64 0, .int .i64 0] 37)).heap.size = W.heap.size + 1 := size_alloc _ _
  have R0 := blk_at (w := W) (o := .cells #[.int .i64 0, .int .i64 0, .int .i64 0, .bool false, .int .i64 0, .int .i64 0, .int .i64 0, .int .i64 0, .int .i64 0, .int .i64 0, .int .i64 0, .int .i64 0, .int .i64 0, .int .i64 0, .int .i64 0] 37)
  have G0 := World.grownBy_alloc W (.cells #[.int .i64 0, .int .i64 0, .int .i64 0, .bool false, .int .i64 0, .int .i64 0, .int .i64 0, .int .i64 0, .int .i64 0, .int .i64 0, .int .i64 0, .int .i64 0, .int .i64 0, .int .i64 0, .int .i64 0] 37) none
  generalize W.alloc (.cells #[.int .i64 0, .int .i64 0, .int .i64 0, .bool false, .int .i64 0, .int .i64 0, .int .i64 0, .int .i64 0, .int .i64 0, .int .i64 0, .int .i64 0, .int .i64 0, .int .i64 0, .int .i64 0, .int .i64 0] 37) = w0 at R0 G0 hl1 ⊢
  go_region_held3 (fun _ => True) (trivial)
    (first
      | (go_at_call 29; with_reducible refine (KX.out _).mono ?_; rintro e w' ⟨rfl, rfl⟩)
      | (go_at_call 29; with_reducible refine (KY.out _).mono ?_; rintro e w' ⟨rfl, rfl⟩)
      | (go_at_call 29; with_reducible refine (KD.out _).mono ?_; rintro e w' ⟨rfl, rfl⟩))
  all_goals
    refine abs_w (R := DI W (W.heap.size + 1) #[.int .i64 12, .int .i64 X, .int .i64 Y, .bool false, .int .i64 D, .int .i64 0, .int .i64 0, .int .i64 0, .int .i64 0, .int .i64 0, .int .i64 0, .int .i64 (fr : Nat), .int .i64 q, .int .i64 0, .int .i64 0]) ⟨?_, ?_, ?_, ?_⟩ (fun w5 I => ?_)
    · first | exact blk_al R0 _ | exact (blk_al (w := w0.drew) R0 _)
    · first | (rw [← hl1]; exact blk_at (w := w0)) | (rw [← hl1]; exact blk_at (w := w0.drew))
    · first | exact gb_trans (gb_trans G0 (World.grownBy_alloc w0 _ none)) (gb_drew _ _) | exact gb_trans (gb_trans G0 (gb_drew w0 _)) (World.grownBy_alloc w0.drew _ none)
    · omega
    have HI := Lib.hid I
    have ne1 : W.heap.size ≠ W.heap.size + 1 := by omega
    have ne2 : W.heap.size + 1 ≠ W.heap.size := by omega
    have a0 := blk_cell I.hd 0
    have a1 := blk_cell I.hd 1
    have a2 := blk_cell I.hd 2
    have a3 := blk_cell I.hd 3
    have a4 := blk_cell I.hd 4
    have a5 := blk_cell I.hd 5
    have a6 := blk_cell I.hd 6
    have a7 := blk_cell I.hd 7
    have a8 := blk_cell I.hd 8
    have a9 := blk_cell I.hd 9
    have a10 := blk_cell I.hd 10
    have a11 := blk_cell I.hd 11
    have a12 := blk_cell I.hd 12
    have a13 := blk_cell I.hd 13
    have a14 := blk_cell I.hd 14
    simp only [List.getElem?_toArray, List.getElem?_cons_succ, List.getElem?_cons_zero] at a0 a1 a2 a3 a4 a5 a6 a7 a8 a9 a10 a11 a12 a13 a14
    have hlx := blk_lt I.hd
    clear I
    clear G0 R0 hl1
    have KSX0 := fun u => rside_calls X u
    rw [show sdV X = 0 from by unfold sdV; rw [if_neg (by omega), if_neg (by omega)]] at KSX0
    have KSX := Lib.hid KSX0
    clear KSX0
    go_wp2_with fail
    refine (KSX.out _).mono ?_
    rintro e w' ⟨rfl, rfl⟩
    have KSY0 := fun u => rside_calls Y u
    rw [show sdV Y = 0 from by unfold sdV; rw [if_neg (by omega), if_neg (by omega)]] at KSY0
    have KSY := Lib.hid KSY0
    clear KSY0
    go_wp2_with fail
    refine (KSY.out _).mono ?_
    rintro e w' ⟨rfl, rfl⟩
    go_wp2_with fail
    refine (KP.out _).mono ?_
    rintro e w' ⟨rfl, rfl⟩
    have b4 := Hb4.out
    have hp : (P != 1) = false := by rw [b4]; rfl
    have KDP0 := fun u => rdepth_calls D u
    have b5 := Hb5.out
    have hE := Lib.hid (show shV fr X Y P D = badA 3 ((fr : Int) + 10) from by unfold shV; rw [if_neg (by omega), if_neg (by omega), if_neg (by omega), if_neg (by omega), if_neg (by omega), if_pos (by omega)])
    clear b0 b1 b2 b3 b4
    clear Hb5
    subst b5
    rw [show dp6 16 = true from rfl] at KDP0
    have KDP := Lib.hid KDP0
    clear KDP0
    go_wp2_with fail
    refine (KDP.out _).mono ?_
    rintro e w' ⟨rfl, rfl⟩
    have KB := Lib.hid (fun u => rbad_calls 3 ((fr : Int) + 10) u)
    have hwp : IntKind.i64.wrap ((fr : Int) + 10) = (fr : Int) + 10 := IntWalk.i64_in _ (by omega)
    unfold badA at KB
    go_wp2_with fail

    

    refine (KB.out _).mono ?_
    rintro e w9 ⟨rfl, g9⟩
    have B9 := old0 g9 HI.out.res (blk_lt HI.out.res) (by simp)
    have r0 := blk_cell B9 0
    have r1 := blk_cell B9 1
    have r2 := blk_cell B9 2
    have r3 := blk_cell B9 3
    have r4 := blk_cell B9 4
    have r5 := blk_cell B9 5
    have r6 := blk_cell B9 6
    have r7 := blk_cell B9 7
    have r8 := blk_cell B9 8
    have r9 := blk_cell B9 9
    have r10 := blk_cell B9 10
    have r11 := blk_cell B9 11
    have r12 := blk_cell B9 12
    have r13 := blk_cell B9 13
    have r14 := blk_cell B9 14
    have rf0 := blk_free B9 0
    have rf1 := blk_free B9 1
    have rf2 := blk_free B9 2
    have rf3 := blk_free B9 3
    have rf4 := blk_free B9 4
    have rf5 := blk_free B9 5
    have rf6 := blk_free B9 6
    have rf7 := blk_free B9 7
    have rf8 := blk_free B9 8
    have rf9 := blk_free B9 9
    have rf10 := blk_free B9 10
    have rf11 := blk_free B9 11
    have rf12 := blk_free B9 12
    have rf13 := blk_free B9 13
    have rf14 := blk_free B9 14
    simp only [List.getElem?_toArray, List.getElem?_cons_succ, List.getElem?_cons_zero] at r0 r1 r2 r3 r4 r5 r6 r7 r8 r9 r10 r11 r12 r13 r14
    have hlr := blk_lt B9
    have G9 := Lib.hid (gb_trans HI.out.gb g9)
    clear g9 B9 KB
    go_wp2
    refine bodyPost_ret (v := .agg (badA 3 ((fr : Int) + 10))) (by simp only [results, Tryd.results30, badA]; go_simp) rfl ⟨by rw [hE.out], ?_⟩
    exact gb_own (gb_own (gb_own (gb_own (gb_own (gb_own (gb_own (gb_own (gb_own (gb_own (gb_own (gb_own (gb_own (gb_own (gb_own (G9.out) (Nat.le_refl _) (gb_set _ _ _ _)) (Nat.le_refl _) (gb_set _ _ _ _)) (Nat.le_refl _) (gb_set _ _ _ _)) (Nat.le_refl _) (gb_set _ _ _ _)) (Nat.le_refl _) (gb_set _ _ _ _)) (Nat.le_refl _) (gb_set _ _ _ _)) (Nat.le_refl _) (gb_set _ _ _ _)) (Nat.le_refl _) (gb_set _ _ _ _)) (Nat.le_refl _) (gb_set _ _ _ _)) (Nat.le_refl _) (gb_set _ _ _ _)) (Nat.le_refl _) (gb_set _ _ _ _)) (Nat.le_refl _) (gb_set _ _ _ _)) (Nat.le_refl _) (gb_set _ _ _ _)) (Nat.le_refl _) (gb_set _ _ _ _)) (Nat.le_refl _) (gb_set _ _ _ _)

end Go.Proofs.YtikjfmpdfeaooaaDoor.Dh

/- The document's answer of a head of twelve bytes (g; written by wip/gen/di4.py). -/
namespace Go.Proofs.YtikjfmpdfeaooaaDoor.Dh
open Go.ChangeShapes Go.WideShapes Go.ChangeAt Go.RowKit
open Go.Proofs.YtikjfmpdfeaooaaDoor.Le Go.Proofs.YtikjfmpdfeaooaaDoor.Sr Go.Proofs.YtikjfmpdfeaooaaDoor.Ma
set_option linter.unusedVariables false

set_option maxRecDepth 100000 in
set_option maxHeartbeats 8000000 in
theorem rshort_g (z : ByteArray) (fr : Nat) (X Y P : Int) (W : World) (hzs : z.size = 12) (hfr : fr ≤ 4611686018427387904) (hX : ((w2 z 4 : Nat) : Int) = X) (hY : ((w2 z 6 : Nat) : Int) = Y) (hP : ((w2 z 8 : Nat) : Int) = P) (D : Int) (hD : ((w2 z 10 : Nat) : Int) = D) (b0 : ¬ X ≤ 0) (b1 : ¬ 16384 < X) (b2 : ¬ Y ≤ 0) (b3 : ¬ 16384 < Y) (b4 : P = 1) (b5 : D = 32) :
    Calls Tryd.prog 30 #[.string z, .int .i64 (fr : Nat)] W fun e w' => e = .returned (.agg (shV fr X Y P D)) ∧ W.grownBy w' none := by
  have Hb4 := Lib.hid b4
  clear b4
  have Hb5 := Lib.hid b5
  clear b5
  have KX0 := fun u => le2_is z 4 (by omega) u
  have KY0 := fun u => le2_is z 6 (by omega) u
  have KD0 := fun u => le2_is z 10 (by omega) u
  have KP0 := fun u => le2_is z 8 (by omega) u
  rw [hX] at KX0
  rw [hY] at KY0
  rw [hD] at KD0
  rw [hP] at KP0
  have KX := Lib.hid KX0
  have KY := Lib.hid KY0
  have KD := Lib.hid KD0
  have KP := Lib.hid KP0
  have s1 : ∀ w, (Instr.slice 9 (.string z) (some (.int .i64 4)) (some (.int .i64 6)) none).run Tryd.prog w = .ok (.string (z.extract 4 (4 + 2))) w := fun w => cut_at z 4 2 (by omega) w
  have s2 : ∀ w, (Instr.slice 9 (.string z) (some (.int .i64 6)) (some (.int .i64 8)) none).run Tryd.prog w = .ok (.string (z.extract 6 (6 + 2))) w := fun w => cut_at z 6 2 (by omega) w
  have s3 : ∀ w, (Instr.slice 9 (.string z) (some (.int .i64 10)) (some (.int .i64 12)) none).run Tryd.prog w = .ok (.string (z.extract 10 (10 + 2))) w := fun w => cut_at z 10 2 (by omega) w
  have s4 : ∀ w, (Instr.slice 9 (.string z) (some (.int .i64 8)) (some (.int .i64 10)) none).run Tryd.prog w = .ok (.string (z.extract 8 (8 + 2))) w := fun w => cut_at z 8 2 (by omega) w
  obtain ⟨q, hq⟩ : ∃ q : Int, ((fr + 12 : Nat) : Int) = q := ⟨_, rfl⟩
  have wq : IntKind.i64.wrap ((fr : Int) + 12) = q := by rw [IntWalk.i64_in _ (by omega)]; omega
  have HQ := Lib.hid hq
  clear KX0 KY0 KD0 KP0 hX hY hP hD hq hzs
  go_enter Tryd.func30, Tryd.ntmps30
  go_upto_region 1 with fail
  have hl1 : (W.alloc (.cells #[.int .i64 0, .int .i64 0, .int .i64 0, .bool false, .int .i64 0, .int .i64 0, .int .i64 0, .int .i64 0, .int .i64 0, .int .i64 0, .int .i64 0, .int .i64 0, .int .i64 0, .int .i64 0, .int .i64 0] 37)).heap.size = W.heap.size + 1 := size_alloc _ _
  have R0 := blk_at (w := W) (o := .cells #[.int .i64 0, .int .i64 0, .int .i64 0, .bool false, .int .i64 0, .int .i64 0, .int .i64 0, .int .i64 0, .int .i64 0, .int .i64 0, .int .i64 0, .int .i64 0, .int .i64 0, .int .i64 0, .int .i64 0] 37)
  have G0 := World.grownBy_alloc W (.cells #[.int .i64 0, .int .i64 0, .int .i64 0, .bool false, .int .i64 0, .int .i64 0, .int .i64 0, .int .i64 0, .int .i64 0, .int .i64 0, .int .i64 0, .int .i64 0, .int .i64 0, .int .i64 0, .int .i64 0] 37) none
  generalize W.alloc (.cells #[.int .i64 0, .int .i64 0, .int .i64 0, .bool false, .int .i64 0, .int .i64 0, .int .i64 0, .int .i64 0, .int .i64 0, .int .i64 0, .int .i64 0, .int .i64 0, .int .i64 0, .int .i64 0, .int .i64 0] 37) = w0 at R0 G0 hl1 ⊢
  go_region_held3 (fun _ => True) (trivial)
    (first
      | (go_at_call 29; with_reducible refine (KX.out _).mono ?_; rintro e w' ⟨rfl, rfl⟩)
      | (go_at_call 29; with_reducible refine (KY.out _).mono ?_; rintro e w' ⟨rfl, rfl⟩)
      | (go_at_call 29; with_reducible refine (KD.out _).mono ?_; rintro e w' ⟨rfl, rfl⟩))
  all_goals
    refine abs_w (R := DI W (W.heap.size + 1) #[.int .i64 12, .int .i64 X, .int .i64 Y, .bool false, .int .i64 D, .int .i64 0, .int .i64 0, .int .i64 0, .int .i64 0, .int .i64 0, .int .i64 0, .int .i64 (fr : Nat), .int .i64 q, .int .i64 0, .int .i64 0]) ⟨?_, ?_, ?_, ?_⟩ (fun w5 I => ?_)
    · first | exact blk_al R0 _ | exact (blk_al (w := w0.drew) R0 _)
    · first | (rw [← hl1]; exact blk_at (w := w0)) | (rw [← hl1]; exact blk_at (w := w0.drew))
    · first | exact gb_trans (gb_trans G0 (World.grownBy_alloc w0 _ none)) (gb_drew _ _) | exact gb_trans (gb_trans G0 (gb_drew w0 _)) (World.grownBy_alloc w0.drew _ none)
    · omega
    have HI := Lib.hid I
    have ne1 : W.heap.size ≠ W.heap.size + 1 := by omega
    have ne2 : W.heap.size + 1 ≠ W.heap.size := by omega
    have a0 := blk_cell I.hd 0
    have a1 := blk_cell I.hd 1
    have a2 := blk_cell I.hd 2
    have a3 := blk_cell I.hd 3
    have a4 := blk_cell I.hd 4
    have a5 := blk_cell I.hd 5
    have a6 := blk_cell I.hd 6
    have a7 := blk_cell I.hd 7
    have a8 := blk_cell I.hd 8
    have a9 := blk_cell I.hd 9
    have a10 := blk_cell I.hd 10
    have a11 := blk_cell I.hd 11
    have a12 := blk_cell I.hd 12
    have a13 := blk_cell I.hd 13
    have a14 := blk_cell I.hd 14
    simp only [List.getElem?_toArray, List.getElem?_cons_succ, List.getElem?_cons_zero] at a0 a1 a2 a3 a4 a5 a6 a7 a8 a9 a10 a11 a12 a13 a14
    have hlx := blk_lt I.hd
    clear I
    clear G0 R0 hl1
    have KSX0 := fun u => rside_calls X u
    rw [show sdV X = 0 from by unfold sdV; rw [if_neg (by omega), if_neg (by omega)]] at KSX0
    have KSX := Lib.hid KSX0
    clear KSX0
    go_wp2_with fail
    refine (KSX.out _).mono ?_
    rintro e w' ⟨rfl, rfl⟩
    have KSY0 := fun u => rside_calls Y u
    rw [show sdV Y = 0 from by unfold sdV; rw [if_neg (by omega), if_neg (by omega)]] at KSY0
    have KSY := Lib.hid KSY0
    clear KSY0
    go_wp2_with fail
    refine (KSY.out _).mono ?_
    rintro e w' ⟨rfl, rfl⟩
    go_wp2_with fail
    refine (KP.out _).mono ?_
    rintro e w' ⟨rfl, rfl⟩
    have b4 := Hb4.out
    have hp : (P != 1) = false := by rw [b4]; rfl
    have KDP0 := fun u => rdepth_calls D u
    have b5 := Hb5.out
    have hE := Lib.hid (show shV fr X Y P D = badA 3 ((fr : Int) + 10) from by unfold shV; rw [if_neg (by omega), if_neg (by omega), if_neg (by omega), if_neg (by omega), if_neg (by omega), if_pos (by omega)])
    clear b0 b1 b2 b3 b4
    clear Hb5
    subst b5
    rw [show dp6 32 = true from rfl] at KDP0
    have KDP := Lib.hid KDP0
    clear KDP0
    go_wp2_with fail
    refine (KDP.out _).mono ?_
    rintro e w' ⟨rfl, rfl⟩
    have KB := Lib.hid (fun u => rbad_calls 3 ((fr : Int) + 10) u)
    have hwp : IntKind.i64.wrap ((fr : Int) + 10) = (fr : Int) + 10 := IntWalk.i64_in _ (by omega)
    unfold badA at KB
    go_wp2_with fail

    

    refine (KB.out _).mono ?_
    rintro e w9 ⟨rfl, g9⟩
    have B9 := old0 g9 HI.out.res (blk_lt HI.out.res) (by simp)
    have r0 := blk_cell B9 0
    have r1 := blk_cell B9 1
    have r2 := blk_cell B9 2
    have r3 := blk_cell B9 3
    have r4 := blk_cell B9 4
    have r5 := blk_cell B9 5
    have r6 := blk_cell B9 6
    have r7 := blk_cell B9 7
    have r8 := blk_cell B9 8
    have r9 := blk_cell B9 9
    have r10 := blk_cell B9 10
    have r11 := blk_cell B9 11
    have r12 := blk_cell B9 12
    have r13 := blk_cell B9 13
    have r14 := blk_cell B9 14
    have rf0 := blk_free B9 0
    have rf1 := blk_free B9 1
    have rf2 := blk_free B9 2
    have rf3 := blk_free B9 3
    have rf4 := blk_free B9 4
    have rf5 := blk_free B9 5
    have rf6 := blk_free B9 6
    have rf7 := blk_free B9 7
    have rf8 := blk_free B9 8
    have rf9 := blk_free B9 9
    have rf10 := blk_free B9 10
    have rf11 := blk_free B9 11
    have rf12 := blk_free B9 12
    have rf13 := blk_free B9 13
    have rf14 := blk_free B9 14
    simp only [List.getElem?_toArray, List.getElem?_cons_succ, List.getElem?_cons_zero] at r0 r1 r2 r3 r4 r5 r6 r7 r8 r9 r10 r11 r12 r13 r14
    have hlr := blk_lt B9
    have G9 := Lib.hid (gb_trans HI.out.gb g9)
    clear g9 B9 KB
    go_wp2
    refine bodyPost_ret (v := .agg (badA 3 ((fr : Int) + 10))) (by simp only [results, Tryd.results30, badA]; go_simp) rfl ⟨by rw [hE.out], ?_⟩
    exact gb_own (gb_own (gb_own (gb_own (gb_own (gb_own (gb_own (gb_own (gb_own (gb_own (gb_own (gb_own (gb_own (gb_own (gb_own (G9.out) (Nat.le_refl _) (gb_set _ _ _ _)) (Nat.le_refl _) (gb_set _ _ _ _)) (Nat.le_refl _) (gb_set _ _ _ _)) (Nat.le_refl _) (gb_set _ _ _ _)) (Nat.le_refl _) (gb_set _ _ _ _)) (Nat.le_refl _) (gb_set _ _ _ _)) (Nat.le_refl _) (gb_set _ _ _ _)) (Nat.le_refl _) (gb_set _ _ _ _)) (Nat.le_refl _) (gb_set _ _ _ _)) (Nat.le_refl _) (gb_set _ _ _ _)) (Nat.le_refl _) (gb_set _ _ _ _)) (Nat.le_refl _) (gb_set _ _ _ _)) (Nat.le_refl _) (gb_set _ _ _ _)) (Nat.le_refl _) (gb_set _ _ _ _)) (Nat.le_refl _) (gb_set _ _ _ _)

end Go.Proofs.YtikjfmpdfeaooaaDoor.Dh

/- The document's answer of a head of twelve bytes (h; written by wip/gen/di4.py). -/
namespace Go.Proofs.YtikjfmpdfeaooaaDoor.Dh
open Go.ChangeShapes Go.WideShapes Go.ChangeAt Go.RowKit
open Go.Proofs.YtikjfmpdfeaooaaDoor.Le Go.Proofs.YtikjfmpdfeaooaaDoor.Sr Go.Proofs.YtikjfmpdfeaooaaDoor.Ma
set_option linter.unusedVariables false

set_option maxRecDepth 100000 in
set_option maxHeartbeats 8000000 in
theorem rshort_h (z : ByteArray) (fr : Nat) (X Y P : Int) (W : World) (hzs : z.size = 12) (hfr : fr ≤ 4611686018427387904) (hX : ((w2 z 4 : Nat) : Int) = X) (hY : ((w2 z 6 : Nat) : Int) = Y) (hP : ((w2 z 8 : Nat) : Int) = P) (D : Int) (hD : ((w2 z 10 : Nat) : Int) = D) (b0 : ¬ X ≤ 0) (b1 : ¬ 16384 < X) (b2 : ¬ Y ≤ 0) (b3 : ¬ 16384 < Y) (b4 : P = 1) (b5 : ¬ (D = 1 ∨ D = 4 ∨ D = 8 ∨ D = 24)) (b6 : ¬ (D = 16 ∨ D = 32)) :
    Calls Tryd.prog 30 #[.string z, .int .i64 (fr : Nat)] W fun e w' => e = .returned (.agg (shV fr X Y P D)) ∧ W.grownBy w' none := by
  have Hb4 := Lib.hid b4
  clear b4
  have KX0 := fun u => le2_is z 4 (by omega) u
  have KY0 := fun u => le2_is z 6 (by omega) u
  have KD0 := fun u => le2_is z 10 (by omega) u
  have KP0 := fun u => le2_is z 8 (by omega) u
  rw [hX] at KX0
  rw [hY] at KY0
  rw [hD] at KD0
  rw [hP] at KP0
  have KX := Lib.hid KX0
  have KY := Lib.hid KY0
  have KD := Lib.hid KD0
  have KP := Lib.hid KP0
  have s1 : ∀ w, (Instr.slice 9 (.string z) (some (.int .i64 4)) (some (.int .i64 6)) none).run Tryd.prog w = .ok (.string (z.extract 4 (4 + 2))) w := fun w => cut_at z 4 2 (by omega) w
  have s2 : ∀ w, (Instr.slice 9 (.string z) (some (.int .i64 6)) (some (.int .i64 8)) none).run Tryd.prog w = .ok (.string (z.extract 6 (6 + 2))) w := fun w => cut_at z 6 2 (by omega) w
  have s3 : ∀ w, (Instr.slice 9 (.string z) (some (.int .i64 10)) (some (.int .i64 12)) none).run Tryd.prog w = .ok (.string (z.extract 10 (10 + 2))) w := fun w => cut_at z 10 2 (by omega) w
  have s4 : ∀ w, (Instr.slice 9 (.string z) (some (.int .i64 8)) (some (.int .i64 10)) none).run Tryd.prog w = .ok (.string (z.extract 8 (8 + 2))) w := fun w => cut_at z 8 2 (by omega) w
  obtain ⟨q, hq⟩ : ∃ q : Int, ((fr + 12 : Nat) : Int) = q := ⟨_, rfl⟩
  have wq : IntKind.i64.wrap ((fr : Int) + 12) = q := by rw [IntWalk.i64_in _ (by omega)]; omega
  have HQ := Lib.hid hq
  clear KX0 KY0 KD0 KP0 hX hY hP hD hq hzs
  go_enter Tryd.func30, Tryd.ntmps30
  go_upto_region 1 with fail
  have hl1 : (W.alloc (.cells #[.int .i64 0, .int .i64 0, .int .i64 0, .bool false, .int .i64 0, .int .i64 0, .int .i64 0, .int .i64 0, .int .i64 0, .int .i64 0, .int .i64 0, .int .i64 0, .int .i64 0, .int .i64 0, .int .i64 0] 37)).heap.size = W.heap.size + 1 := size_alloc _ _
  have R0 := blk_at (w := W) (o := .cells #[.int .i64 0, .int .i64 0, .int .i64 0, .bool false, .int .i64 0, .int .i64 0, .int .i64 0, .int .i64 0, .int .i64 0, .int .i64 0, .int .i64 0, .int .i64 0, .int .i64 0, .int .i64 0, .int .i64 0] 37)
  have G0 := World.grownBy_alloc W (.cells #[.int .i64 0, .int .i64 0, .int .i64 0, .bool false, .int .i64 0, .int .i64 0, .int .i64 0, .int .i64 0, .int .i64 0, .int .i64 0, .int .i64 0, .int .i64 0, .int .i64 0, .int .i64 0, .int .i64 0] 37) none
  generalize W.alloc (.cells #[.int .i64 0, .int .i64 0, .int .i64 0, .bool false, .int .i64 0, .int .i64 0, .int .i64 0, .int .i64 0, .int .i64 0, .int .i64 0, .int .i64 0, .int .i64 0, .int .i64 0, .int .i64 0, .int .i64 0] 37) = w0 at R0 G0 hl1 ⊢
  go_region_held3 (fun _ => True) (trivial)
    (first
      | (go_at_call 29; with_reducible refine (KX.out _).mono ?_; rintro e w' ⟨rfl, rfl⟩)
      | (go_at_call 29; with_reducible refine (KY.out _).mono ?_; rintro e w' ⟨rfl, rfl⟩)
      | (go_at_call 29; with_reducible refine (KD.out _).mono ?_; rintro e w' ⟨rfl, rfl⟩))
  all_goals
    refine abs_w (R := DI W (W.heap.size + 1) #[.int .i64 12, .int .i64 X, .int .i64 Y, .bool false, .int .i64 D, .int .i64 0, .int .i64 0, .int .i64 0, .int .i64 0, .int .i64 0, .int .i64 0, .int .i64 (fr : Nat), .int .i64 q, .int .i64 0, .int .i64 0]) ⟨?_, ?_, ?_, ?_⟩ (fun w5 I => ?_)
    · first | exact blk_al R0 _ | exact (blk_al (w := w0.drew) R0 _)
    · first | (rw [← hl1]; exact blk_at (w := w0)) | (rw [← hl1]; exact blk_at (w := w0.drew))
    · first | exact gb_trans (gb_trans G0 (World.grownBy_alloc w0 _ none)) (gb_drew _ _) | exact gb_trans (gb_trans G0 (gb_drew w0 _)) (World.grownBy_alloc w0.drew _ none)
    · omega
    have HI := Lib.hid I
    have ne1 : W.heap.size ≠ W.heap.size + 1 := by omega
    have ne2 : W.heap.size + 1 ≠ W.heap.size := by omega
    have a0 := blk_cell I.hd 0
    have a1 := blk_cell I.hd 1
    have a2 := blk_cell I.hd 2
    have a3 := blk_cell I.hd 3
    have a4 := blk_cell I.hd 4
    have a5 := blk_cell I.hd 5
    have a6 := blk_cell I.hd 6
    have a7 := blk_cell I.hd 7
    have a8 := blk_cell I.hd 8
    have a9 := blk_cell I.hd 9
    have a10 := blk_cell I.hd 10
    have a11 := blk_cell I.hd 11
    have a12 := blk_cell I.hd 12
    have a13 := blk_cell I.hd 13
    have a14 := blk_cell I.hd 14
    simp only [List.getElem?_toArray, List.getElem?_cons_succ, List.getElem?_cons_zero] at a0 a1 a2 a3 a4 a5 a6 a7 a8 a9 a10 a11 a12 a13 a14
    have hlx := blk_lt I.hd
    clear I
    clear G0 R0 hl1
    have KSX0 := fun u => rside_calls X u
    rw [show sdV X = 0 from by unfold sdV; rw [if_neg (by omega), if_neg (by omega)]] at KSX0
    have KSX := Lib.hid KSX0
    clear KSX0
    go_wp2_with fail
    refine (KSX.out _).mono ?_
    rintro e w' ⟨rfl, rfl⟩
    have KSY0 := fun u => rside_calls Y u
    rw [show sdV Y = 0 from by unfold sdV; rw [if_neg (by omega), if_neg (by omega)]] at KSY0
    have KSY := Lib.hid KSY0
    clear KSY0
    go_wp2_with fail
    refine (KSY.out _).mono ?_
    rintro e w' ⟨rfl, rfl⟩
    go_wp2_with fail
    refine (KP.out _).mono ?_
    rintro e w' ⟨rfl, rfl⟩
    have b4 := Hb4.out
    have hp : (P != 1) = false := by rw [b4]; rfl
    have KDP0 := fun u => rdepth_calls D u
    have hE := Lib.hid (show shV fr X Y P D = badA 3 ((fr : Int) + 10) from by unfold shV; rw [if_neg (by omega), if_neg (by omega), if_neg (by omega), if_neg (by omega), if_neg (by omega), if_pos (by omega)])
    rw [show dp6 D = false from decide_eq_false (by omega)] at KDP0
    have KDP := Lib.hid KDP0
    clear KDP0 b0 b1 b2 b3 b4 b5 b6
    go_wp2_with fail
    refine (KDP.out _).mono ?_
    rintro e w' ⟨rfl, rfl⟩
    have KB := Lib.hid (fun u => rbad_calls 3 ((fr : Int) + 10) u)
    have hwp : IntKind.i64.wrap ((fr : Int) + 10) = (fr : Int) + 10 := IntWalk.i64_in _ (by omega)
    unfold badA at KB
    go_wp2_with fail

    

    refine (KB.out _).mono ?_
    rintro e w9 ⟨rfl, g9⟩
    have B9 := old0 g9 HI.out.res (blk_lt HI.out.res) (by simp)
    have r0 := blk_cell B9 0
    have r1 := blk_cell B9 1
    have r2 := blk_cell B9 2
    have r3 := blk_cell B9 3
    have r4 := blk_cell B9 4
    have r5 := blk_cell B9 5
    have r6 := blk_cell B9 6
    have r7 := blk_cell B9 7
    have r8 := blk_cell B9 8
    have r9 := blk_cell B9 9
    have r10 := blk_cell B9 10
    have r11 := blk_cell B9 11
    have r12 := blk_cell B9 12
    have r13 := blk_cell B9 13
    have r14 := blk_cell B9 14
    have rf0 := blk_free B9 0
    have rf1 := blk_free B9 1
    have rf2 := blk_free B9 2
    have rf3 := blk_free B9 3
    have rf4 := blk_free B9 4
    have rf5 := blk_free B9 5
    have rf6 := blk_free B9 6
    have rf7 := blk_free B9 7
    have rf8 := blk_free B9 8
    have rf9 := blk_free B9 9
    have rf10 := blk_free B9 10
    have rf11 := blk_free B9 11
    have rf12 := blk_free B9 12
    have rf13 := blk_free B9 13
    have rf14 := blk_free B9 14
    simp only [List.getElem?_toArray, List.getElem?_cons_succ, List.getElem?_cons_zero] at r0 r1 r2 r3 r4 r5 r6 r7 r8 r9 r10 r11 r12 r13 r14
    have hlr := blk_lt B9
    have G9 := Lib.hid (gb_trans HI.out.gb g9)
    clear g9 B9 KB
    go_wp2
    refine bodyPost_ret (v := .agg (badA 3 ((fr : Int) + 10))) (by simp only [results, Tryd.results30, badA]; go_simp) rfl ⟨by rw [hE.out], ?_⟩
    exact gb_own (gb_own (gb_own (gb_own (gb_own (gb_own (gb_own (gb_own (gb_own (gb_own (gb_own (gb_own (gb_own (gb_own (gb_own (G9.out) (Nat.le_refl _) (gb_set _ _ _ _)) (Nat.le_refl _) (gb_set _ _ _ _)) (Nat.le_refl _) (gb_set _ _ _ _)) (Nat.le_refl _) (gb_set _ _ _ _)) (Nat.le_refl _) (gb_set _ _ _ _)) (Nat.le_refl _) (gb_set _ _ _ _)) (Nat.le_refl _) (gb_set _ _ _ _)) (Nat.le_refl _) (gb_set _ _ _ _)) (Nat.le_refl _) (gb_set _ _ _ _)) (Nat.le_refl _) (gb_set _ _ _ _)) (Nat.le_refl _) (gb_set _ _ _ _)) (Nat.le_refl _) (gb_set _ _ _ _)) (Nat.le_refl _) (gb_set _ _ _ _)) (Nat.le_refl _) (gb_set _ _ _ _)) (Nat.le_refl _) (gb_set _ _ _ _)

end Go.Proofs.YtikjfmpdfeaooaaDoor.Dh

/- The document's answer of a head of twelve bytes (i; written by wip/gen/di4.py). -/
namespace Go.Proofs.YtikjfmpdfeaooaaDoor.Dh
open Go.ChangeShapes Go.WideShapes Go.ChangeAt Go.RowKit
open Go.Proofs.YtikjfmpdfeaooaaDoor.Le Go.Proofs.YtikjfmpdfeaooaaDoor.Sr Go.Proofs.YtikjfmpdfeaooaaDoor.Ma
set_option linter.unusedVariables false

set_option maxRecDepth 100000 in
set_option maxHeartbeats 8000000 in
theorem rshort_i (z : ByteArray) (fr : Nat) (X Y P : Int) (W : World) (hzs : z.size = 12) (hfr : fr ≤ 4611686018427387904) (hX : ((w2 z 4 : Nat) : Int) = X) (hY : ((w2 z 6 : Nat) : Int) = Y) (hP : ((w2 z 8 : Nat) : Int) = P) (D : Int) (hD : ((w2 z 10 : Nat) : Int) = D) (b0 : ¬ X ≤ 0) (b1 : ¬ 16384 < X) (b2 : ¬ Y ≤ 0) (b3 : ¬ 16384 < Y) (b4 : P = 1) (b5 : D = 1) :
    Calls Tryd.prog 30 #[.string z, .int .i64 (fr : Nat)] W fun e w' => e = .returned (.agg (shV fr X Y P D)) ∧ W.grownBy w' none := by
  have Hb4 := Lib.hid b4
  clear b4
  have Hb5 := Lib.hid b5
  clear b5
  have KX0 := fun u => le2_is z 4 (by omega) u
  have KY0 := fun u => le2_is z 6 (by omega) u
  have KD0 := fun u => le2_is z 10 (by omega) u
  have KP0 := fun u => le2_is z 8 (by omega) u
  rw [hX] at KX0
  rw [hY] at KY0
  rw [hD] at KD0
  rw [hP] at KP0
  have KX := Lib.hid KX0
  have KY := Lib.hid KY0
  have KD := Lib.hid KD0
  have KP := Lib.hid KP0
  have s1 : ∀ w, (Instr.slice 9 (.string z) (some (.int .i64 4)) (some (.int .i64 6)) none).run Tryd.prog w = .ok (.string (z.extract 4 (4 + 2))) w := fun w => cut_at z 4 2 (by omega) w
  have s2 : ∀ w, (Instr.slice 9 (.string z) (some (.int .i64 6)) (some (.int .i64 8)) none).run Tryd.prog w = .ok (.string (z.extract 6 (6 + 2))) w := fun w => cut_at z 6 2 (by omega) w
  have s3 : ∀ w, (Instr.slice 9 (.string z) (some (.int .i64 10)) (some (.int .i64 12)) none).run Tryd.prog w = .ok (.string (z.extract 10 (10 + 2))) w := fun w => cut_at z 10 2 (by omega) w
  have s4 : ∀ w, (Instr.slice 9 (.string z) (some (.int .i64 8)) (some (.int .i64 10)) none).run Tryd.prog w = .ok (.string (z.extract 8 (8 + 2))) w := fun w => cut_at z 8 2 (by omega) w
  obtain ⟨q, hq⟩ : ∃ q : Int, ((fr + 12 : Nat) : Int) = q := ⟨_, rfl⟩
  have wq : IntKind.i64.wrap ((fr : Int) + 12) = q := by rw [IntWalk.i64_in _ (by omega)]; omega
  have HQ := Lib.hid hq
  clear KX0 KY0 KD0 KP0 hX hY hP hD hq hzs
  go_enter Tryd.func30, Tryd.ntmps30
  go_upto_region 1 with fail
  have hl1 : (W.alloc (.cells #[.int .i64 0, .int .i64 0, .int .i64 0, .bool false, .int .i64 0, .int .i64 0, .int .i64 0, .int .i64 0, .int .i64 0, .int .i64 0, .int .i64 0, .int .i64 0, .int .i64 0, .int .i64 0, .int .i64 0] 37)).heap.size = W.heap.size + 1 := size_alloc _ _
  have R0 := blk_at (w := W) (o := .cells #[.int .i64 0, .int .i64 0, .int .i64 0, .bool false, .int .i64 0, .int .i64 0, .int .i64 0, .int .i64 0, .int .i64 0, .int .i64 0, .int .i64 0, .int .i64 0, .int .i64 0, .int .i64 0, .int .i64 0] 37)
  have G0 := World.grownBy_alloc W (.cells #[.int .i64 0, .int .i64 0, .int .i64 0, .bool false, .int .i64 0, .int .i64 0, .int .i64 0, .int .i64 0, .int .i64 0, .int .i64 0, .int .i64 0, .int .i64 0, .int .i64 0, .int .i64 0, .int .i64 0] 37) none
  generalize W.alloc (.cells #[.int .i64 0, .int .i64 0, .int .i64 0, .bool false, .int .i64 0, .int .i64 0, .int .i64 0, .int .i64 0, .int .i64 0, .int .i64 0, .int .i64 0, .int .i64 0, .int .i64 0, .int .i64 0, .int .i64 0] 37) = w0 at R0 G0 hl1 ⊢
  go_region_held3 (fun _ => True) (trivial)
    (first
      | (go_at_call 29; with_reducible refine (KX.out _).mono ?_; rintro e w' ⟨rfl, rfl⟩)
      | (go_at_call 29; with_reducible refine (KY.out _).mono ?_; rintro e w' ⟨rfl, rfl⟩)
      | (go_at_call 29; with_reducible refine (KD.out _).mono ?_; rintro e w' ⟨rfl, rfl⟩))
  all_goals
    refine abs_w (R := DI W (W.heap.size + 1) #[.int .i64 12, .int .i64 X, .int .i64 Y, .bool false, .int .i64 D, .int .i64 0, .int .i64 0, .int .i64 0, .int .i64 0, .int .i64 0, .int .i64 0, .int .i64 (fr : Nat), .int .i64 q, .int .i64 0, .int .i64 0]) ⟨?_, ?_, ?_, ?_⟩ (fun w5 I => ?_)
    · first | exact blk_al R0 _ | exact (blk_al (w := w0.drew) R0 _)
    · first | (rw [← hl1]; exact blk_at (w := w0)) | (rw [← hl1]; exact blk_at (w := w0.drew))
    · first | exact gb_trans (gb_trans G0 (World.grownBy_alloc w0 _ none)) (gb_drew _ _) | exact gb_trans (gb_trans G0 (gb_drew w0 _)) (World.grownBy_alloc w0.drew _ none)
    · omega
    have HI := Lib.hid I
    have ne1 : W.heap.size ≠ W.heap.size + 1 := by omega
    have ne2 : W.heap.size + 1 ≠ W.heap.size := by omega
    have a0 := blk_cell I.hd 0
    have a1 := blk_cell I.hd 1
    have a2 := blk_cell I.hd 2
    have a3 := blk_cell I.hd 3
    have a4 := blk_cell I.hd 4
    have a5 := blk_cell I.hd 5
    have a6 := blk_cell I.hd 6
    have a7 := blk_cell I.hd 7
    have a8 := blk_cell I.hd 8
    have a9 := blk_cell I.hd 9
    have a10 := blk_cell I.hd 10
    have a11 := blk_cell I.hd 11
    have a12 := blk_cell I.hd 12
    have a13 := blk_cell I.hd 13
    have a14 := blk_cell I.hd 14
    simp only [List.getElem?_toArray, List.getElem?_cons_succ, List.getElem?_cons_zero] at a0 a1 a2 a3 a4 a5 a6 a7 a8 a9 a10 a11 a12 a13 a14
    have hlx := blk_lt I.hd
    clear I
    clear G0 R0 hl1
    have KSX0 := fun u => rside_calls X u
    rw [show sdV X = 0 from by unfold sdV; rw [if_neg (by omega), if_neg (by omega)]] at KSX0
    have KSX := Lib.hid KSX0
    clear KSX0
    go_wp2_with fail
    refine (KSX.out _).mono ?_
    rintro e w' ⟨rfl, rfl⟩
    have KSY0 := fun u => rside_calls Y u
    rw [show sdV Y = 0 from by unfold sdV; rw [if_neg (by omega), if_neg (by omega)]] at KSY0
    have KSY := Lib.hid KSY0
    clear KSY0
    go_wp2_with fail
    refine (KSY.out _).mono ?_
    rintro e w' ⟨rfl, rfl⟩
    go_wp2_with fail
    refine (KP.out _).mono ?_
    rintro e w' ⟨rfl, rfl⟩
    have b4 := Hb4.out
    have hp : (P != 1) = false := by rw [b4]; rfl
    have KDP0 := fun u => rdepth_calls D u
    have b5 := Hb5.out
    clear Hb5
    have b7 : D = 1 ∨ D = 4 ∨ D = 8 ∨ D = 24 := by omega
    have hE0 : shV fr X Y P D = #[.int .i64 12, .int .i64 X, .int .i64 Y, .bool false, .int .i64 D, .int .i64 0, .int .i64 (clrC D 0), .int .i64 0, .int .i64 0, .int .i64 0, .int .i64 0, .int .i64 (fr : Nat), .int .i64 ((fr + 12 : Nat)), .int .i64 0, .int .i64 0] := by unfold shV; rw [if_neg (by omega), if_neg (by omega), if_neg (by omega), if_neg (by omega), if_neg (by omega), if_neg (by omega)]
    have hE := Lib.hid hE0
    clear b0 b1 b2 b3 b4 b7 hE0
    subst b5
    rw [show dp6 1 = true from rfl] at KDP0
    have KDP := Lib.hid KDP0
    clear KDP0
    have KW := Lib.hid (show ∀ u, Calls Tryd.prog 34 #[.int .i64 1] u fun e w' => e = .returned (.int .i64 2) ∧ u = w' from fun u => Go.Proofs.YtikjfmpdfeaooaaDoor.Sc.power_calls 1 u (by decide))
    have f6 := blk_free HI.out.hd 6
    go_wp2_with fail
    refine (KDP.out _).mono ?_
    rintro e w' ⟨rfl, rfl⟩
    go_wp2_with fail
    refine (KW.out _).mono ?_
    rintro e w' ⟨rfl, rfl⟩
    go_upto_region 12 with fail
    refine abs_w (R := DI W (W.heap.size + 1) #[.int .i64 12, .int .i64 X, .int .i64 Y, .bool false, .int .i64 1, .int .i64 0, .int .i64 2, .int .i64 0, .int .i64 0, .int .i64 0, .int .i64 0, .int .i64 (fr : Nat), .int .i64 q, .int .i64 0, .int .i64 0]) ?_ (fun w7 I7 => ?_)
    · exact ⟨blk_other HI.out.res ne1, blk_set HI.out.hd 6 _, gb_own HI.out.gb (Nat.le_of_lt HI.out.lt) (gb_set _ _ _ _), HI.out.lt⟩
    have HI7 := Lib.hid I7
    clear a0 a1 a2 a3 a4 a5 a6 a7 a8 a9 a10 a11 a12 a13 a14 hlx f6
    have a0 := blk_cell I7.hd 0
    have a1 := blk_cell I7.hd 1
    have a2 := blk_cell I7.hd 2
    have a3 := blk_cell I7.hd 3
    have a4 := blk_cell I7.hd 4
    have a5 := blk_cell I7.hd 5
    have a6 := blk_cell I7.hd 6
    have a7 := blk_cell I7.hd 7
    have a8 := blk_cell I7.hd 8
    have a9 := blk_cell I7.hd 9
    have a10 := blk_cell I7.hd 10
    have a11 := blk_cell I7.hd 11
    have a12 := blk_cell I7.hd 12
    have a13 := blk_cell I7.hd 13
    have a14 := blk_cell I7.hd 14
    simp only [List.getElem?_toArray, List.getElem?_cons_succ, List.getElem?_cons_zero] at a0 a1 a2 a3 a4 a5 a6 a7 a8 a9 a10 a11 a12 a13 a14
    have hlx := blk_lt I7.hd
    clear I7
    have r_ := HI7.out.res
    have r0 := blk_cell r_ 0
    have r1 := blk_cell r_ 1
    have r2 := blk_cell r_ 2
    have r3 := blk_cell r_ 3
    have r4 := blk_cell r_ 4
    have r5 := blk_cell r_ 5
    have r6 := blk_cell r_ 6
    have r7 := blk_cell r_ 7
    have r8 := blk_cell r_ 8
    have r9 := blk_cell r_ 9
    have r10 := blk_cell r_ 10
    have r11 := blk_cell r_ 11
    have r12 := blk_cell r_ 12
    have r13 := blk_cell r_ 13
    have r14 := blk_cell r_ 14
    have rf0 := blk_free r_ 0
    have rf1 := blk_free r_ 1
    have rf2 := blk_free r_ 2
    have rf3 := blk_free r_ 3
    have rf4 := blk_free r_ 4
    have rf5 := blk_free r_ 5
    have rf6 := blk_free r_ 6
    have rf7 := blk_free r_ 7
    have rf8 := blk_free r_ 8
    have rf9 := blk_free r_ 9
    have rf10 := blk_free r_ 10
    have rf11 := blk_free r_ 11
    have rf12 := blk_free r_ 12
    have rf13 := blk_free r_ 13
    have rf14 := blk_free r_ 14
    simp only [List.getElem?_toArray, List.getElem?_cons_succ, List.getElem?_cons_zero] at r0 r1 r2 r3 r4 r5 r6 r7 r8 r9 r10 r11 r12 r13 r14
    have hlr := blk_lt r_
    clear r_
    go_wp2
    refine bodyPost_ret (v := .agg #[.int .i64 12, .int .i64 X, .int .i64 Y, .bool false, .int .i64 1, .int .i64 0, .int .i64 2, .int .i64 0, .int .i64 0, .int .i64 0, .int .i64 0, .int .i64 (fr : Nat), .int .i64 q, .int .i64 0, .int .i64 0]) (by simp only [results, Tryd.results30]; go_simp) rfl ⟨by rw [hE.out, HQ.out]; rfl, ?_⟩
    exact gb_own (gb_own (gb_own (gb_own (gb_own (gb_own (gb_own (gb_own (gb_own (gb_own (gb_own (gb_own (gb_own (gb_own (gb_own (HI7.out.gb) (Nat.le_refl _) (gb_set _ _ _ _)) (Nat.le_refl _) (gb_set _ _ _ _)) (Nat.le_refl _) (gb_set _ _ _ _)) (Nat.le_refl _) (gb_set _ _ _ _)) (Nat.le_refl _) (gb_set _ _ _ _)) (Nat.le_refl _) (gb_set _ _ _ _)) (Nat.le_refl _) (gb_set _ _ _ _)) (Nat.le_refl _) (gb_set _ _ _ _)) (Nat.le_refl _) (gb_set _ _ _ _)) (Nat.le_refl _) (gb_set _ _ _ _)) (Nat.le_refl _) (gb_set _ _ _ _)) (Nat.le_refl _) (gb_set _ _ _ _)) (Nat.le_refl _) (gb_set _ _ _ _)) (Nat.le_refl _) (gb_set _ _ _ _)) (Nat.le_refl _) (gb_set _ _ _ _)

end Go.Proofs.YtikjfmpdfeaooaaDoor.Dh
