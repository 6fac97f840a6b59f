/- The law PnmheadSizes, walked where the head may be asked (written by wip/gen/pnh9.py). -/
import Derived.Test.YtckkkdiekamiaaaPnh9
namespace Go.Proofs.Ytckkkdiekamiaaa.Ph
open Go.ChangeShapes Go.WideShapes Go.ChangeAt Go.RowKit
open Go.Proofs.Ytckkkdiekamiaaa.Le Go.Proofs.Ytckkkdiekamiaaa.Sr Go.Proofs.Ytckkkdiekamiaaa.Tk
set_option linter.unusedVariables false

theorem abs_q {Q : World → Prop} {R : World → Prop} {w : World} (h : R w) (k : ∀ w', R w' → Q w') : Q w := k w h
set_option maxRecDepth 100000 in
set_option maxHeartbeats 8000000 in
theorem sizes_yes_4 (w h m : Nat) (a : Int) (W : World) (hw : 1 ≤ w ∧ w ≤ 16384) (hh : 1 ≤ h ∧ h ≤ 16384) (hm : 1 ≤ m ∧ m ≤ 65535) :
    Calls Try.prog 7 #[.agg #[.int .i64 4, .int .i64 w, .int .i64 h, .int .i64 m, .int .i64 a]] W fun e w' => e = .returned (.bool true) ∧ W.grownBy w' none := by
  have KS := fun u => size_yes 4 w h m a u (by decide) hw hh hm
  have KR := fun u => rrow_calls 4 w m 0 0 0 0 u (by decide) hw.2 hm.2
  have hrl := rowV_le 4 w m hw.2
  obtain ⟨r, hr⟩ : ∃ r, rowV 4 w m = r := ⟨_, rfl⟩
  rw [hr] at hrl
  simp only [hr, show ((4 : Nat) : Int) = 4 from rfl] at KS KR
  obtain ⟨pr, hpr⟩ : ∃ pr : Int, (h : Int) * (r : Int) = pr := ⟨_, rfl⟩
  simp only [hpr] at KS
  have KS := Lib.hid KS
  have KR := Lib.hid KR
  have QT := fun u n => text_quiet 4 u n
  have QC := fun u n => colors_quiet 4 u n
  simp only [show rgB 1 3 4 = false from by decide] at QT
  simp only [show orB 3 6 4 = false from by decide] at QC
  have QT := Lib.hid QT
  have QC := Lib.hid QC
  have hp0 : (0 : Int) ≤ (h : Int) * (r : Int) := Int.mul_nonneg (by omega) (by omega)
  have hp1 : (h : Int) * (r : Int) ≤ 1610612736 := by
    have h1 : h * r ≤ 16384 * 98304 := Nat.mul_le_mul hh.2 hrl
    have : ((h * r : Nat) : Int) ≤ 1610612736 := by omega
    rwa [Int.natCast_mul] at this
  rw [hpr] at hp0 hp1
  have hwr : IntKind.i64.wrap pr = pr := by rw [IntKind.wrap_i64]; omega
  obtain ⟨hw1, hw2⟩ := hw
  obtain ⟨hh1, hh2⟩ := hh
  obtain ⟨hm1, hm2⟩ := hm
  have d2 : decide ((1 : Int) ≤ w) = true := decide_eq_true (by omega)
  have d3 : decide ((w : Int) ≤ 16384) = true := decide_eq_true (by omega)
  have d4 : decide ((1 : Int) ≤ h) = true := decide_eq_true (by omega)
  have d5 : decide ((h : Int) ≤ 16384) = true := decide_eq_true (by omega)
  have d6 : decide ((1 : Int) ≤ m) = true := decide_eq_true (by omega)
  have d7 : decide ((m : Int) ≤ 65535) = true := decide_eq_true (by omega)
  clear hr hrl
  go_enter Try.func7, Try.ntmps7
  go_wp2_with fail
  refine (KS.out _).mono ?_
  rintro e w1 ⟨rfl, g1⟩
  have D9 : Hc W.heap.size 4 w h m a w1 := old1 g1 (by simp)
  have HG1 := Lib.hid (gb_trans (World.grownBy_alloc W (.cells #[.int .i64 4, .int .i64 w, .int .i64 h, .int .i64 m, .int .i64 a] 48) none) g1)
  have HD1 := Lib.hid D9
  have q0 := D9.c0
  have q1 := D9.c1
  have q2 := D9.c2
  have q3 := D9.c3
  have q4 := D9.c4
  clear D9 g1 KS
  have AW := Lib.hid (fun u => awake_calls u)
  go_wp2_with fail
  have HDq := Lib.hid (fun n : Nat => HD1.out.turned (Tn.gb (gb_drewN w1 n none) (S := []) (by simp)) (by simp))
  have HGq := Lib.hid (fun n : Nat => gb_trans HG1.out (gb_drewN w1 n none))
  go_quiet (first | (go_at_call 25; exact Calls.quiet_of_same (QT.out _ _)) | (go_at_call 26; exact Calls.quiet_of_same (QC.out _ _)))
  refine abs_q (R := fun w' => Hc W.heap.size 4 w h m a w' ∧ W.grownBy w' none) ⟨HDq.out _, HGq.out _⟩ (fun w2 I => ?_)
  have D9 := I.1
  have G2 := Lib.hid I.2
  clear q0 q1 q2 q3 q4
  have q0 := D9.c0
  have q1 := D9.c1
  have q2 := D9.c2
  have q3 := D9.c3
  have q4 := D9.c4
  clear D9 I HD1 HG1 HDq HGq
  go_wp2_with fail
  go_region_held3 (fun w' => w'.cell? ⟨W.heap.size, 0, none⟩ = some (.int .i64 4) ∧ w'.cell? ⟨W.heap.size, 1, none⟩ = some (.int .i64 w) ∧ w'.cell? ⟨W.heap.size, 2, none⟩ = some (.int .i64 h) ∧ w'.cell? ⟨W.heap.size, 3, none⟩ = some (.int .i64 m)) (first | exact ⟨q0, q1, q2, q3⟩ | exact ⟨m0, m1, m2, m3⟩ | exact ⟨n0, n1, n2, n3⟩)
    (first | (go_at_call 28; with_reducible refine (KR.out _).mono ?_; rintro e w3 ⟨rfl, g3o⟩; have g3 : w2.grownBy w3 none := (by first | exact gb_trans (gb_drew w2 _) g3o | exact g3o); clear g3o; have m0 : w3.cell? ⟨W.heap.size, 0, none⟩ = some (.int .i64 4) := g3.cell q0 (by simp); have m1 : w3.cell? ⟨W.heap.size, 1, none⟩ = some (.int .i64 w) := g3.cell q1 (by simp); have m2 : w3.cell? ⟨W.heap.size, 2, none⟩ = some (.int .i64 h) := g3.cell q2 (by simp); have m3 : w3.cell? ⟨W.heap.size, 3, none⟩ = some (.int .i64 m) := g3.cell q3 (by simp); have G3 := Lib.hid (gb_trans G2.out g3); clear g3) | (go_at_call 27; with_reducible refine (AW.out _).mono ?_; rintro e w4 ⟨rfl, g4⟩; have n0 : w4.cell? ⟨W.heap.size, 0, none⟩ = some (.int .i64 4) := g4.cell m0 (by simp); have n1 : w4.cell? ⟨W.heap.size, 1, none⟩ = some (.int .i64 w) := g4.cell m1 (by simp); have n2 : w4.cell? ⟨W.heap.size, 2, none⟩ = some (.int .i64 h) := g4.cell m2 (by simp); have n3 : w4.cell? ⟨W.heap.size, 3, none⟩ = some (.int .i64 m) := g4.cell m3 (by simp); have G4 := Lib.hid (gb_trans G3.out g4); clear g4))
  all_goals
    go_wp2
    go_ret
    exact ⟨rfl, G4.out⟩

set_option maxRecDepth 100000 in
set_option maxHeartbeats 8000000 in
theorem sizes_yes_5 (w h m : Nat) (a : Int) (W : World) (hw : 1 ≤ w ∧ w ≤ 16384) (hh : 1 ≤ h ∧ h ≤ 16384) (hm : 1 ≤ m ∧ m ≤ 65535) :
    Calls Try.prog 7 #[.agg #[.int .i64 5, .int .i64 w, .int .i64 h, .int .i64 m, .int .i64 a]] W fun e w' => e = .returned (.bool true) ∧ W.grownBy w' none := by
  have KS := fun u => size_yes 5 w h m a u (by decide) hw hh hm
  have KR := fun u => rrow_calls 5 w m 0 0 0 0 u (by decide) hw.2 hm.2
  have hrl := rowV_le 5 w m hw.2
  obtain ⟨r, hr⟩ : ∃ r, rowV 5 w m = r := ⟨_, rfl⟩
  rw [hr] at hrl
  simp only [hr, show ((5 : Nat) : Int) = 5 from rfl] at KS KR
  obtain ⟨pr, hpr⟩ : ∃ pr : Int, (h : Int) * (r : Int) = pr := ⟨_, rfl⟩
  simp only [hpr] at KS
  have KS := Lib.hid KS
  have KR := Lib.hid KR
  have QT := fun u n => text_quiet 5 u n
  have QC := fun u n => colors_quiet 5 u n
  simp only [show rgB 1 3 5 = false from by decide] at QT
  simp only [show orB 3 6 5 = false from by decide] at QC
  have QT := Lib.hid QT
  have QC := Lib.hid QC
  have hp0 : (0 : Int) ≤ (h : Int) * (r : Int) := Int.mul_nonneg (by omega) (by omega)
  have hp1 : (h : Int) * (r : Int) ≤ 1610612736 := by
    have h1 : h * r ≤ 16384 * 98304 := Nat.mul_le_mul hh.2 hrl
    have : ((h * r : Nat) : Int) ≤ 1610612736 := by omega
    rwa [Int.natCast_mul] at this
  rw [hpr] at hp0 hp1
  have hwr : IntKind.i64.wrap pr = pr := by rw [IntKind.wrap_i64]; omega
  obtain ⟨hw1, hw2⟩ := hw
  obtain ⟨hh1, hh2⟩ := hh
  obtain ⟨hm1, hm2⟩ := hm
  have d2 : decide ((1 : Int) ≤ w) = true := decide_eq_true (by omega)
  have d3 : decide ((w : Int) ≤ 16384) = true := decide_eq_true (by omega)
  have d4 : decide ((1 : Int) ≤ h) = true := decide_eq_true (by omega)
  have d5 : decide ((h : Int) ≤ 16384) = true := decide_eq_true (by omega)
  have d6 : decide ((1 : Int) ≤ m) = true := decide_eq_true (by omega)
  have d7 : decide ((m : Int) ≤ 65535) = true := decide_eq_true (by omega)
  clear hr hrl
  go_enter Try.func7, Try.ntmps7
  go_wp2_with fail
  refine (KS.out _).mono ?_
  rintro e w1 ⟨rfl, g1⟩
  have D9 : Hc W.heap.size 5 w h m a w1 := old1 g1 (by simp)
  have HG1 := Lib.hid (gb_trans (World.grownBy_alloc W (.cells #[.int .i64 5, .int .i64 w, .int .i64 h, .int .i64 m, .int .i64 a] 48) none) g1)
  have HD1 := Lib.hid D9
  have q0 := D9.c0
  have q1 := D9.c1
  have q2 := D9.c2
  have q3 := D9.c3
  have q4 := D9.c4
  clear D9 g1 KS
  have AW := Lib.hid (fun u => awake_calls u)
  go_wp2_with fail
  have HDq := Lib.hid (fun n : Nat => HD1.out.turned (Tn.gb (gb_drewN w1 n none) (S := []) (by simp)) (by simp))
  have HGq := Lib.hid (fun n : Nat => gb_trans HG1.out (gb_drewN w1 n none))
  go_quiet (first | (go_at_call 25; exact Calls.quiet_of_same (QT.out _ _)) | (go_at_call 26; exact Calls.quiet_of_same (QC.out _ _)))
  refine abs_q (R := fun w' => Hc W.heap.size 5 w h m a w' ∧ W.grownBy w' none) ⟨HDq.out _, HGq.out _⟩ (fun w2 I => ?_)
  have D9 := I.1
  have G2 := Lib.hid I.2
  clear q0 q1 q2 q3 q4
  have q0 := D9.c0
  have q1 := D9.c1
  have q2 := D9.c2
  have q3 := D9.c3
  have q4 := D9.c4
  clear D9 I HD1 HG1 HDq HGq
  go_wp2_with fail
  go_region_held3 (fun w' => w'.cell? ⟨W.heap.size, 0, none⟩ = some (.int .i64 5) ∧ w'.cell? ⟨W.heap.size, 1, none⟩ = some (.int .i64 w) ∧ w'.cell? ⟨W.heap.size, 2, none⟩ = some (.int .i64 h) ∧ w'.cell? ⟨W.heap.size, 3, none⟩ = some (.int .i64 m)) (first | exact ⟨q0, q1, q2, q3⟩ | exact ⟨m0, m1, m2, m3⟩ | exact ⟨n0, n1, n2, n3⟩)
    (first | (go_at_call 28; with_reducible refine (KR.out _).mono ?_; rintro e w3 ⟨rfl, g3o⟩; have g3 : w2.grownBy w3 none := (by first | exact gb_trans (gb_drew w2 _) g3o | exact g3o); clear g3o; have m0 : w3.cell? ⟨W.heap.size, 0, none⟩ = some (.int .i64 5) := g3.cell q0 (by simp); have m1 : w3.cell? ⟨W.heap.size, 1, none⟩ = some (.int .i64 w) := g3.cell q1 (by simp); have m2 : w3.cell? ⟨W.heap.size, 2, none⟩ = some (.int .i64 h) := g3.cell q2 (by simp); have m3 : w3.cell? ⟨W.heap.size, 3, none⟩ = some (.int .i64 m) := g3.cell q3 (by simp); have G3 := Lib.hid (gb_trans G2.out g3); clear g3) | (go_at_call 27; with_reducible refine (AW.out _).mono ?_; rintro e w4 ⟨rfl, g4⟩; have n0 : w4.cell? ⟨W.heap.size, 0, none⟩ = some (.int .i64 5) := g4.cell m0 (by simp); have n1 : w4.cell? ⟨W.heap.size, 1, none⟩ = some (.int .i64 w) := g4.cell m1 (by simp); have n2 : w4.cell? ⟨W.heap.size, 2, none⟩ = some (.int .i64 h) := g4.cell m2 (by simp); have n3 : w4.cell? ⟨W.heap.size, 3, none⟩ = some (.int .i64 m) := g4.cell m3 (by simp); have G4 := Lib.hid (gb_trans G3.out g4); clear g4))
  all_goals
    go_wp2
    go_ret
    exact ⟨rfl, G4.out⟩

set_option maxRecDepth 100000 in
set_option maxHeartbeats 8000000 in
theorem sizes_yes_6 (w h m : Nat) (a : Int) (W : World) (hw : 1 ≤ w ∧ w ≤ 16384) (hh : 1 ≤ h ∧ h ≤ 16384) (hm : 1 ≤ m ∧ m ≤ 65535) :
    Calls Try.prog 7 #[.agg #[.int .i64 6, .int .i64 w, .int .i64 h, .int .i64 m, .int .i64 a]] W fun e w' => e = .returned (.bool true) ∧ W.grownBy w' none := by
  have KS := fun u => size_yes 6 w h m a u (by decide) hw hh hm
  have KR := fun u => rrow_calls 6 w m 0 0 0 0 u (by decide) hw.2 hm.2
  have hrl := rowV_le 6 w m hw.2
  obtain ⟨r, hr⟩ : ∃ r, rowV 6 w m = r := ⟨_, rfl⟩
  rw [hr] at hrl
  simp only [hr, show ((6 : Nat) : Int) = 6 from rfl] at KS KR
  obtain ⟨pr, hpr⟩ : ∃ pr : Int, (h : Int) * (r : Int) = pr := ⟨_, rfl⟩
  simp only [hpr] at KS
  have KS := Lib.hid KS
  have KR := Lib.hid KR
  have QT := fun u n => text_quiet 6 u n
  have QC := fun u n => colors_quiet 6 u n
  simp only [show rgB 1 3 6 = false from by decide] at QT
  simp only [show orB 3 6 6 = true from by decide] at QC
  have QT := Lib.hid QT
  have QC := Lib.hid QC
  have hp0 : (0 : Int) ≤ (h : Int) * (r : Int) := Int.mul_nonneg (by omega) (by omega)
  have hp1 : (h : Int) * (r : Int) ≤ 1610612736 := by
    have h1 : h * r ≤ 16384 * 98304 := Nat.mul_le_mul hh.2 hrl
    have : ((h * r : Nat) : Int) ≤ 1610612736 := by omega
    rwa [Int.natCast_mul] at this
  rw [hpr] at hp0 hp1
  have hwr : IntKind.i64.wrap pr = pr := by rw [IntKind.wrap_i64]; omega
  obtain ⟨hw1, hw2⟩ := hw
  obtain ⟨hh1, hh2⟩ := hh
  obtain ⟨hm1, hm2⟩ := hm
  have d2 : decide ((1 : Int) ≤ w) = true := decide_eq_true (by omega)
  have d3 : decide ((w : Int) ≤ 16384) = true := decide_eq_true (by omega)
  have d4 : decide ((1 : Int) ≤ h) = true := decide_eq_true (by omega)
  have d5 : decide ((h : Int) ≤ 16384) = true := decide_eq_true (by omega)
  have d6 : decide ((1 : Int) ≤ m) = true := decide_eq_true (by omega)
  have d7 : decide ((m : Int) ≤ 65535) = true := decide_eq_true (by omega)
  clear hr hrl
  go_enter Try.func7, Try.ntmps7
  go_wp2_with fail
  refine (KS.out _).mono ?_
  rintro e w1 ⟨rfl, g1⟩
  have D9 : Hc W.heap.size 6 w h m a w1 := old1 g1 (by simp)
  have HG1 := Lib.hid (gb_trans (World.grownBy_alloc W (.cells #[.int .i64 6, .int .i64 w, .int .i64 h, .int .i64 m, .int .i64 a] 48) none) g1)
  have HD1 := Lib.hid D9
  have q0 := D9.c0
  have q1 := D9.c1
  have q2 := D9.c2
  have q3 := D9.c3
  have q4 := D9.c4
  clear D9 g1 KS
  have AW := Lib.hid (fun u => awake_calls u)
  go_wp2_with fail
  have HDq := Lib.hid (fun n : Nat => HD1.out.turned (Tn.gb (gb_drewN w1 n none) (S := []) (by simp)) (by simp))
  have HGq := Lib.hid (fun n : Nat => gb_trans HG1.out (gb_drewN w1 n none))
  go_quiet (first | (go_at_call 25; exact Calls.quiet_of_same (QT.out _ _)) | (go_at_call 26; exact Calls.quiet_of_same (QC.out _ _)))
  refine abs_q (R := fun w' => Hc W.heap.size 6 w h m a w' ∧ W.grownBy w' none) ⟨HDq.out _, HGq.out _⟩ (fun w2 I => ?_)
  have D9 := I.1
  have G2 := Lib.hid I.2
  clear q0 q1 q2 q3 q4
  have q0 := D9.c0
  have q1 := D9.c1
  have q2 := D9.c2
  have q3 := D9.c3
  have q4 := D9.c4
  clear D9 I HD1 HG1 HDq HGq
  go_wp2_with fail
  go_region_held3 (fun w' => w'.cell? ⟨W.heap.size, 0, none⟩ = some (.int .i64 6) ∧ w'.cell? ⟨W.heap.size, 1, none⟩ = some (.int .i64 w) ∧ w'.cell? ⟨W.heap.size, 2, none⟩ = some (.int .i64 h) ∧ w'.cell? ⟨W.heap.size, 3, none⟩ = some (.int .i64 m)) (first | exact ⟨q0, q1, q2, q3⟩ | exact ⟨m0, m1, m2, m3⟩ | exact ⟨n0, n1, n2, n3⟩)
    (first | (go_at_call 28; with_reducible refine (KR.out _).mono ?_; rintro e w3 ⟨rfl, g3o⟩; have g3 : w2.grownBy w3 none := (by first | exact gb_trans (gb_drew w2 _) g3o | exact g3o); clear g3o; have m0 : w3.cell? ⟨W.heap.size, 0, none⟩ = some (.int .i64 6) := g3.cell q0 (by simp); have m1 : w3.cell? ⟨W.heap.size, 1, none⟩ = some (.int .i64 w) := g3.cell q1 (by simp); have m2 : w3.cell? ⟨W.heap.size, 2, none⟩ = some (.int .i64 h) := g3.cell q2 (by simp); have m3 : w3.cell? ⟨W.heap.size, 3, none⟩ = some (.int .i64 m) := g3.cell q3 (by simp); have G3 := Lib.hid (gb_trans G2.out g3); clear g3) | (go_at_call 27; with_reducible refine (AW.out _).mono ?_; rintro e w4 ⟨rfl, g4⟩; have n0 : w4.cell? ⟨W.heap.size, 0, none⟩ = some (.int .i64 6) := g4.cell m0 (by simp); have n1 : w4.cell? ⟨W.heap.size, 1, none⟩ = some (.int .i64 w) := g4.cell m1 (by simp); have n2 : w4.cell? ⟨W.heap.size, 2, none⟩ = some (.int .i64 h) := g4.cell m2 (by simp); have n3 : w4.cell? ⟨W.heap.size, 3, none⟩ = some (.int .i64 m) := g4.cell m3 (by simp); have G4 := Lib.hid (gb_trans G3.out g4); clear g4))
  all_goals
    go_wp2
    go_ret
    exact ⟨rfl, G4.out⟩

theorem sizes_walk (k w h m a : Int) (W : World) :
    Calls Try.prog 7 #[.agg #[.int .i64 k, .int .i64 w, .int .i64 h, .int .i64 m, .int .i64 a]] W fun e w' => e = .returned (.bool true) ∧ W.grownBy w' none := by
  cases hm : mayB k w h m
  · exact sizes_no k w h m a W hm
  · have h1 := hm
    rw [may_is] at h1
    simp only [Bool.and_eq_true, decide_eq_true_eq] at h1
    obtain ⟨⟨⟨⟨⟨⟨⟨k1, k2⟩, w1⟩, w2⟩, h1⟩, h2⟩, m1⟩, m2⟩ := h1
    obtain ⟨w', rfl⟩ : ∃ n : Nat, w = n := ⟨w.toNat, by omega⟩
    obtain ⟨h', rfl⟩ : ∃ n : Nat, h = n := ⟨h.toNat, by omega⟩
    obtain ⟨m', rfl⟩ : ∃ n : Nat, m = n := ⟨m.toNat, by omega⟩
    obtain rfl | rfl | rfl : k = 4 ∨ k = 5 ∨ k = 6 := by omega
    · exact sizes_yes_4 w' h' m' a W (by omega) (by omega) (by omega)
    · exact sizes_yes_5 w' h' m' a W (by omega) (by omega) (by omega)
    · exact sizes_yes_6 w' h' m' a W (by omega) (by omega) (by omega)

end Go.Proofs.Ytckkkdiekamiaaa.Ph
