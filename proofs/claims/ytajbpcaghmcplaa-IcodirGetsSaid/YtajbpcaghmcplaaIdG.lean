/- Layer 24: the law of one entry, walked (written by wip/gen/idc.py). -/
import Derived.Test.YtajbpcaghmcplaaIdC
namespace Go.Proofs.Ytajbpcaghmcplaa.Id
open Go.ChangeShapes Go.WideShapes Go.ChangeAt Go.RowKit
open Go.Proofs.Ytajbpcaghmcplaa.Le Go.Proofs.Ytajbpcaghmcplaa.Sr Go.Proofs.Ytajbpcaghmcplaa.Dh
set_option linter.unusedVariables false

set_option maxRecDepth 100000 in
theorem gets_long (s : ByteArray) (i : Int) (h : 600 < s.size) (W : World) :
    Calls Try.prog 4 #[.string s, .int .i64 i] W fun e w' => e = .returned (.bool true) ∧ W.grownBy w' none := by
  have d0 : (600 : Int) < (s.size : Int) := by omega
  have d1 : decide ((600 : Int) < (s.size : Int)) = true := decide_eq_true d0
  go_enter Try.func4, Try.ntmps4
  go_wp2_with fail
  refine (awake_calls _).mono ?_
  rintro e w' ⟨rfl, g⟩
  have HG := Lib.hid g
  clear g
  go_wp2
  go_ret
  exact ⟨rfl, HG.out⟩

/-- What the law holds Is against. -/
def isN (n0 n1 n2 n3 n4 n5 n9 : Nat) : Bool := decide (n0 = 0 ∧ n1 = 0 ∧ (n2 = 1 ∨ n2 = 2) ∧ n3 = 0 ∧ (n4 ≠ 0 ∨ n5 ≠ 0) ∧ n9 = 0)
theorem is_long (s : ByteArray) (h : 10 ≤ s.size) : isB s = isN (bn s 0) (bn s 1) (bn s 2) (bn s 3) (bn s 4) (bn s 5) (bn s 9) := by
  have h0 := bn_lt s 0
  have h1 := bn_lt s 1
  have h2 := bn_lt s 2
  have h3 := bn_lt s 3
  have h4 := bn_lt s 4
  have h5 := bn_lt s 5
  unfold isB isN wrB w2
  rw [decide_eq_true h, Bool.true_and]
  simp only [Nat.zero_add, Nat.reduceAdd]
  rw [← decide_not, ← Bool.decide_and]
  exact decide_eq_decide.2 (by constructor <;> intro h9 <;> omega)

set_option maxRecDepth 100000 in
set_option maxHeartbeats 4000000 in
theorem gets_yes (s : ByteArray) (hs : s.size ≤ 600) (i : Nat) (h22 : 22 + 16 * i ≤ s.size) (hi : i ≤ 100) (W : World) :
    Calls Try.prog 4 #[.string s, .int .i64 (i : Nat)] W fun e w' => e = .returned (.bool true) ∧ W.grownBy w' none := by
  have d0 : ¬ (600 : Int) < (s.size : Int) := by omega
  have KI := fun u => is_calls s (by omega) u
  obtain ⟨B, hB⟩ : ∃ B, isB s = B := ⟨_, rfl⟩
  rw [hB] at KI
  have KI := Lib.hid KI
  have HB := Lib.hid hB
  have bxor : (B != B) = false := by cases B <;> rfl
  have KA := Lib.hid (fun u => awake_calls u)
  have KG := fun u => get_yes s i (by omega) h22 u
  have KR := fun u => rget_calls s i h22 (by omega) u
  obtain ⟨v0, v1, v2, v3, v4, v5, hv⟩ : ∃ v0 v1 v2 v3 v4 v5 : Nat, enV s (qE 0 i) = #[.int .i64 (v0 : Nat), .int .i64 (v1 : Nat), .int .i64 (v2 : Nat), .int .i64 (v3 : Nat), .int .i64 (v4 : Nat), .int .i64 (v5 : Nat)] := ⟨_, _, _, _, _, _, rfl⟩
  rw [hv] at KG KR
  have KG := Lib.hid KG
  have KR := Lib.hid KR
  have KP := Lib.hid (fun u => plain_calls (v0 : Nat) (v1 : Nat) (v2 : Nat) (v3 : Nat) (v4 : Nat) (v5 : Nat) u)
  have e0 : ¬ (i : Int) < 0 := by omega
  have e1 : ¬ (100 : Int) < (i : Int) := by omega
  have m1 : IntKind.i64.wrap (16 * (i : Int)) = 16 * (i : Int) := IntWalk.i64_in _ (by omega)
  have m2 : IntKind.i64.wrap (22 + 16 * (i : Int)) = 22 + 16 * (i : Int) := IntWalk.i64_in _ (by omega)
  have e2 : ¬ (s.size : Int) < 22 + 16 * (i : Int) := by omega
  clear hv h22
  have HBYTES : 10 ≤ s.size → ∃ n0 n1 n2 n3 n4 n5 n9 : Nat, ∃ (l0 : 0 < s.size) (l1 : 1 < s.size) (l2 : 2 < s.size) (l3 : 3 < s.size) (l4 : 4 < s.size) (l5 : 5 < s.size) (l9 : 9 < s.size), (s[0]'l0).toNat = n0 ∧ (s[1]'l1).toNat = n1 ∧ (s[2]'l2).toNat = n2 ∧ (s[3]'l3).toNat = n3 ∧ (s[4]'l4).toNat = n4 ∧ (s[5]'l5).toNat = n5 ∧ (s[9]'l9).toNat = n9 ∧ isN n0 n1 n2 n3 n4 n5 n9 = B := fun h10 => ⟨_, _, _, _, _, _, _, by omega, by omega, by omega, by omega, by omega, by omega, by omega, bn_at s 0 (by omega), bn_at s 1 (by omega), bn_at s 2 (by omega), bn_at s 3 (by omega), bn_at s 4 (by omega), bn_at s 5 (by omega), bn_at s 9 (by omega), by rw [← is_long s h10]; exact hB⟩
  have HBYTES := Lib.hid HBYTES
  clear hB
  go_enter Try.func4, Try.ntmps4
  go_upto_region 3 with fail
  go_cut [5] from 12 (fun c wx => c = .bool B ∧ W = wx)
  case first =>
    by_cases h10 : 10 ≤ s.size
    · obtain ⟨n0, n1, n2, n3, n4, n5, n9, l0, l1, l2, l3, l4, l5, l9, j0, j1, j2, j3, j4, j5, j9, hN⟩ := HBYTES.out h10
      have c10 : (10 : Int) ≤ (s.size : Int) := by omega
      have i0 : (0 : Int) < (s.size : Int) := by omega
      have i1 : (1 : Int) < (s.size : Int) := by omega
      have i2 : (2 : Int) < (s.size : Int) := by omega
      have i3 : (3 : Int) < (s.size : Int) := by omega
      have i4 : (4 : Int) < (s.size : Int) := by omega
      have i5 : (5 : Int) < (s.size : Int) := by omega
      have i9 : (9 : Int) < (s.size : Int) := by omega
      unfold isN at hN
      have WAYS : (n0 ≠ 0) ∨ (n0 = 0 ∧ n1 ≠ 0) ∨ (n0 = 0 ∧ n1 = 0 ∧ n2 ≠ 1 ∧ n2 ≠ 2) ∨ (n0 = 0 ∧ n1 = 0 ∧ n2 = 1) ∨ (n0 = 0 ∧ n1 = 0 ∧ n2 = 2) := by omega
      have WAY3 : (n3 ≠ 0) ∨ (n3 = 0 ∧ n4 = 0 ∧ n5 = 0) ∨ (n3 = 0 ∧ n4 ≠ 0 ∧ n9 ≠ 0) ∨ (n3 = 0 ∧ n4 ≠ 0 ∧ n9 = 0) ∨ (n3 = 0 ∧ n4 = 0 ∧ n5 ≠ 0 ∧ n9 ≠ 0) ∨ (n3 = 0 ∧ n4 = 0 ∧ n5 ≠ 0 ∧ n9 = 0) := by omega
      clear h10 HBYTES
      rcases WAYS with hq | ⟨rfl, hq⟩ | ⟨rfl, rfl, hq, hq2⟩ | ⟨rfl, rfl, rfl⟩ | ⟨rfl, rfl, rfl⟩
      · have f0 : (((n0 : Nat) : Int) == 0) = false := by rw [beq_eq_false_iff_ne]; omega
        have g0 : ¬ ((n0 : Nat) : Int) = 0 := by omega
        have hv : B = false := by rw [← hN]; first | (simp; done) | (simp; omega)
        subst hv
        clear hN WAY3
        go_wp2_with fail
        go_meet
        exact ⟨rfl, rfl⟩
      · have f1 : (((n1 : Nat) : Int) == 0) = false := by rw [beq_eq_false_iff_ne]; omega
        have g1 : ¬ ((n1 : Nat) : Int) = 0 := by omega
        have hv : B = false := by rw [← hN]; first | (simp; done) | (simp; omega)
        subst hv
        clear hN WAY3
        go_wp2_with fail
        go_meet
        exact ⟨rfl, rfl⟩
      · have f2a : (((n2 : Nat) : Int) == 1) = false := by rw [beq_eq_false_iff_ne]; omega
        have g2a : ¬ ((n2 : Nat) : Int) = 1 := by omega
        have f2b : (((n2 : Nat) : Int) == 2) = false := by rw [beq_eq_false_iff_ne]; omega
        have g2b : ¬ ((n2 : Nat) : Int) = 2 := by omega
        have hv : B = false := by rw [← hN]; first | (simp; done) | (simp; omega)
        subst hv
        clear hN WAY3
        go_wp2_with fail
        go_meet
        exact ⟨rfl, rfl⟩
      · rcases WAY3 with hq | ⟨rfl, rfl, rfl⟩ | ⟨rfl, hq, hq2⟩ | ⟨rfl, hq, rfl⟩ | ⟨rfl, rfl, hq, hq2⟩ | ⟨rfl, rfl, hq, rfl⟩
        · have f3 : (((n3 : Nat) : Int) == 0) = false := by rw [beq_eq_false_iff_ne]; omega
          have g3 : ¬ ((n3 : Nat) : Int) = 0 := by omega
          have hv : B = false := by rw [← hN]; first | (simp; done) | (simp; omega)
          subst hv
          clear hN
          go_wp2_with fail
          go_meet
          exact ⟨rfl, rfl⟩
        · have hv : B = false := by rw [← hN]; first | (simp; done) | (simp; omega)
          subst hv
          clear hN
          go_wp2_with fail
          go_meet
          exact ⟨rfl, rfl⟩
        · have f4n : (((n4 : Nat) : Int) != 0) = true := by rw [bne_iff_ne]; omega
          have f4 : (((n4 : Nat) : Int) == 0) = false := by rw [beq_eq_false_iff_ne]; omega
          have g4 : ¬ ((n4 : Nat) : Int) = 0 := by omega
          have f9 : (((n9 : Nat) : Int) == 0) = false := by rw [beq_eq_false_iff_ne]; omega
          have g9 : ¬ ((n9 : Nat) : Int) = 0 := by omega
          have hv : B = false := by rw [← hN]; first | (simp; done) | (simp; omega)
          subst hv
          clear hN
          go_wp2_with fail
          go_meet
          exact ⟨rfl, rfl⟩
        · have f4n : (((n4 : Nat) : Int) != 0) = true := by rw [bne_iff_ne]; omega
          have f4 : (((n4 : Nat) : Int) == 0) = false := by rw [beq_eq_false_iff_ne]; omega
          have g4 : ¬ ((n4 : Nat) : Int) = 0 := by omega
          have hv : B = true := by rw [← hN]; first | (simp; done) | (simp; omega)
          subst hv
          clear hN
          go_wp2_with fail
          go_meet
          exact ⟨rfl, rfl⟩
        · have f5n : (((n5 : Nat) : Int) != 0) = true := by rw [bne_iff_ne]; omega
          have f5 : (((n5 : Nat) : Int) == 0) = false := by rw [beq_eq_false_iff_ne]; omega
          have g5 : ¬ ((n5 : Nat) : Int) = 0 := by omega
          have f9 : (((n9 : Nat) : Int) == 0) = false := by rw [beq_eq_false_iff_ne]; omega
          have g9 : ¬ ((n9 : Nat) : Int) = 0 := by omega
          have hv : B = false := by rw [← hN]; first | (simp; done) | (simp; omega)
          subst hv
          clear hN
          go_wp2_with fail
          go_meet
          exact ⟨rfl, rfl⟩
        · have f5n : (((n5 : Nat) : Int) != 0) = true := by rw [bne_iff_ne]; omega
          have f5 : (((n5 : Nat) : Int) == 0) = false := by rw [beq_eq_false_iff_ne]; omega
          have g5 : ¬ ((n5 : Nat) : Int) = 0 := by omega
          have hv : B = true := by rw [← hN]; first | (simp; done) | (simp; omega)
          subst hv
          clear hN
          go_wp2_with fail
          go_meet
          exact ⟨rfl, rfl⟩
      · rcases WAY3 with hq | ⟨rfl, rfl, rfl⟩ | ⟨rfl, hq, hq2⟩ | ⟨rfl, hq, rfl⟩ | ⟨rfl, rfl, hq, hq2⟩ | ⟨rfl, rfl, hq, rfl⟩
        · have f3 : (((n3 : Nat) : Int) == 0) = false := by rw [beq_eq_false_iff_ne]; omega
          have g3 : ¬ ((n3 : Nat) : Int) = 0 := by omega
          have hv : B = false := by rw [← hN]; first | (simp; done) | (simp; omega)
          subst hv
          clear hN
          go_wp2_with fail
          go_meet
          exact ⟨rfl, rfl⟩
        · have hv : B = false := by rw [← hN]; first | (simp; done) | (simp; omega)
          subst hv
          clear hN
          go_wp2_with fail
          go_meet
          exact ⟨rfl, rfl⟩
        · have f4n : (((n4 : Nat) : Int) != 0) = true := by rw [bne_iff_ne]; omega
          have f4 : (((n4 : Nat) : Int) == 0) = false := by rw [beq_eq_false_iff_ne]; omega
          have g4 : ¬ ((n4 : Nat) : Int) = 0 := by omega
          have f9 : (((n9 : Nat) : Int) == 0) = false := by rw [beq_eq_false_iff_ne]; omega
          have g9 : ¬ ((n9 : Nat) : Int) = 0 := by omega
          have hv : B = false := by rw [← hN]; first | (simp; done) | (simp; omega)
          subst hv
          clear hN
          go_wp2_with fail
          go_meet
          exact ⟨rfl, rfl⟩
        · have f4n : (((n4 : Nat) : Int) != 0) = true := by rw [bne_iff_ne]; omega
          have f4 : (((n4 : Nat) : Int) == 0) = false := by rw [beq_eq_false_iff_ne]; omega
          have g4 : ¬ ((n4 : Nat) : Int) = 0 := by omega
          have hv : B = true := by rw [← hN]; first | (simp; done) | (simp; omega)
          subst hv
          clear hN
          go_wp2_with fail
          go_meet
          exact ⟨rfl, rfl⟩
        · have f5n : (((n5 : Nat) : Int) != 0) = true := by rw [bne_iff_ne]; omega
          have f5 : (((n5 : Nat) : Int) == 0) = false := by rw [beq_eq_false_iff_ne]; omega
          have g5 : ¬ ((n5 : Nat) : Int) = 0 := by omega
          have f9 : (((n9 : Nat) : Int) == 0) = false := by rw [beq_eq_false_iff_ne]; omega
          have g9 : ¬ ((n9 : Nat) : Int) = 0 := by omega
          have hv : B = false := by rw [← hN]; first | (simp; done) | (simp; omega)
          subst hv
          clear hN
          go_wp2_with fail
          go_meet
          exact ⟨rfl, rfl⟩
        · have f5n : (((n5 : Nat) : Int) != 0) = true := by rw [bne_iff_ne]; omega
          have f5 : (((n5 : Nat) : Int) == 0) = false := by rw [beq_eq_false_iff_ne]; omega
          have g5 : ¬ ((n5 : Nat) : Int) = 0 := by omega
          have hv : B = true := by rw [← hN]; first | (simp; done) | (simp; omega)
          subst hv
          clear hN
          go_wp2_with fail
          go_meet
          exact ⟨rfl, rfl⟩
    · have c10 : ¬ (10 : Int) ≤ (s.size : Int) := by omega
      have hv : B = false := by rw [← HB.out]; unfold isB; rw [decide_eq_false h10, Bool.false_and]
      subst hv
      clear HBYTES
      go_wp2_with fail
      go_meet
      exact ⟨rfl, rfl⟩
  case rest =>
    obtain ⟨rfl, rfl⟩ := hcut
    clear HBYTES HB
    go_wp2_with fail
    refine (KI.out _).mono ?_
    rintro e w' ⟨rfl, rfl⟩
    go_wp2_with fail
    refine (KG.out _).mono ?_
    rintro e w1 ⟨rfl, g1⟩
    go_upto_region 9 with fail
    have E0 : (w1.alloc (.cells #[.int .i64 (v0 : Nat), .int .i64 (v1 : Nat), .int .i64 (v2 : Nat), .int .i64 (v3 : Nat), .int .i64 (v4 : Nat), .int .i64 (v5 : Nat)] 33)).heap[w1.heap.size]? = some (.cells #[.int .i64 (v0 : Nat), .int .i64 (v1 : Nat), .int .i64 (v2 : Nat), .int .i64 (v3 : Nat), .int .i64 (v4 : Nat), .int .i64 (v5 : Nat)] 33 (0, 0)) := blk_at
    have G0 := Lib.hid (gb_trans g1 (World.grownBy_alloc w1 (.cells #[.int .i64 (v0 : Nat), .int .i64 (v1 : Nat), .int .i64 (v2 : Nat), .int .i64 (v3 : Nat), .int .i64 (v4 : Nat), .int .i64 (v5 : Nat)] 33) none))
    obtain ⟨X, hX⟩ : ∃ X, w1.heap.size = X := ⟨_, rfl⟩
    rw [hX] at E0 ⊢
    generalize w1.alloc _ = w2 at E0 G0 ⊢
    have x0 := blk_cell E0 0
    have x1 := blk_cell E0 1
    have x2 := blk_cell E0 2
    have x3 := blk_cell E0 3
    have x4 := blk_cell E0 4
    have x5 := blk_cell E0 5
    simp only [List.getElem?_toArray, List.getElem?_cons_succ, List.getElem?_cons_zero] at x0 x1 x2 x3 x4 x5
    have HE0 := Lib.hid E0
    clear E0 g1 hX KI KG
    go_region_held3 (fun u => u.cell? ⟨X, 0, none⟩ = some (.int .i64 (v0 : Nat)) ∧ u.cell? ⟨X, 1, none⟩ = some (.int .i64 (v1 : Nat)) ∧ u.cell? ⟨X, 2, none⟩ = some (.int .i64 (v2 : Nat)) ∧ u.cell? ⟨X, 3, none⟩ = some (.int .i64 (v3 : Nat)) ∧ u.cell? ⟨X, 4, none⟩ = some (.int .i64 (v4 : Nat)) ∧ u.cell? ⟨X, 5, none⟩ = some (.int .i64 (v5 : Nat))) (go_keep)
      (first
        | (go_at_call 16; with_reducible refine (KR.out _).mono ?_; rintro e u1 ⟨rfl, gx⟩; have G1 := Lib.hid (show w2.grownBy u1 none from gb_trans (gb_drew _ _) gx); have E1 := old0 G1.out HE0.out (blk_lt HE0.out) (by simp); have y0 := blk_cell E1 0; have y1 := blk_cell E1 1; have y2 := blk_cell E1 2; have y3 := blk_cell E1 3; have y4 := blk_cell E1 4; have y5 := blk_cell E1 5; simp only [List.getElem?_toArray, List.getElem?_cons_succ, List.getElem?_cons_zero] at y0 y1 y2 y3 y4 y5; clear gx E1)
        | (go_at_call 12; with_reducible refine (KP.out _).mono ?_; rintro e u2 ⟨rfl, gx⟩; have G2 := Lib.hid (show w2.grownBy u2 none from gb_trans G1.out gx); have E2 := old0 G2.out HE0.out (blk_lt HE0.out) (by simp); have z0 := blk_cell E2 0; have z1 := blk_cell E2 1; have z2 := blk_cell E2 2; have z3 := blk_cell E2 3; have z4 := blk_cell E2 4; have z5 := blk_cell E2 5; simp only [List.getElem?_toArray, List.getElem?_cons_succ, List.getElem?_cons_zero] at z0 z1 z2 z3 z4 z5; clear gx E2)
        | (go_at_call 6; with_reducible refine (KA.out _).mono ?_; rintro e u3 ⟨rfl, gx⟩; have G3 := Lib.hid (show w2.grownBy u3 none from gb_trans G2.out gx); have E3 := old0 G3.out HE0.out (blk_lt HE0.out) (by simp); have t0 := blk_cell E3 0; have t1 := blk_cell E3 1; have t2 := blk_cell E3 2; have t3 := blk_cell E3 3; have t4 := blk_cell E3 4; have t5 := blk_cell E3 5; simp only [List.getElem?_toArray, List.getElem?_cons_succ, List.getElem?_cons_zero] at t0 t1 t2 t3 t4 t5; clear gx E3))
    all_goals
      go_wp2
      go_ret
      exact ⟨rfl, gb_trans G0.out G3.out⟩

set_option maxRecDepth 100000 in
set_option maxHeartbeats 4000000 in
theorem gets_no (s : ByteArray) (hs : s.size ≤ 600) (i : Int) (h22 : i < 0 ∨ (s.size : Int) < 22 + 16 * i) (hb1 : -9223372036854775808 ≤ i) (hb2 : i ≤ 9223372036854775807) (W : World) :
    Calls Try.prog 4 #[.string s, .int .i64 i] W fun e w' => e = .returned (.bool true) ∧ W.grownBy w' none := by
  have d0 : ¬ (600 : Int) < (s.size : Int) := by omega
  have KI := fun u => is_calls s (by omega) u
  obtain ⟨B, hB⟩ : ∃ B, isB s = B := ⟨_, rfl⟩
  rw [hB] at KI
  have KI := Lib.hid KI
  have HB := Lib.hid hB
  have bxor : (B != B) = false := by cases B <;> rfl
  have KA := Lib.hid (fun u => awake_calls u)
  have KG := Lib.hid (fun u => get_no s i (by omega) h22 u)
  have HBYTES : 10 ≤ s.size → ∃ n0 n1 n2 n3 n4 n5 n9 : Nat, ∃ (l0 : 0 < s.size) (l1 : 1 < s.size) (l2 : 2 < s.size) (l3 : 3 < s.size) (l4 : 4 < s.size) (l5 : 5 < s.size) (l9 : 9 < s.size), (s[0]'l0).toNat = n0 ∧ (s[1]'l1).toNat = n1 ∧ (s[2]'l2).toNat = n2 ∧ (s[3]'l3).toNat = n3 ∧ (s[4]'l4).toNat = n4 ∧ (s[5]'l5).toNat = n5 ∧ (s[9]'l9).toNat = n9 ∧ isN n0 n1 n2 n3 n4 n5 n9 = B := fun h10 => ⟨_, _, _, _, _, _, _, by omega, by omega, by omega, by omega, by omega, by omega, by omega, bn_at s 0 (by omega), bn_at s 1 (by omega), bn_at s 2 (by omega), bn_at s 3 (by omega), bn_at s 4 (by omega), bn_at s 5 (by omega), bn_at s 9 (by omega), by rw [← is_long s h10]; exact hB⟩
  have HBYTES := Lib.hid HBYTES
  clear hB
  go_enter Try.func4, Try.ntmps4
  go_upto_region 3 with fail
  go_cut [5] from 12 (fun c wx => c = .bool B ∧ W = wx)
  case first =>
    by_cases h10 : 10 ≤ s.size
    · obtain ⟨n0, n1, n2, n3, n4, n5, n9, l0, l1, l2, l3, l4, l5, l9, j0, j1, j2, j3, j4, j5, j9, hN⟩ := HBYTES.out h10
      have c10 : (10 : Int) ≤ (s.size : Int) := by omega
      have i0 : (0 : Int) < (s.size : Int) := by omega
      have i1 : (1 : Int) < (s.size : Int) := by omega
      have i2 : (2 : Int) < (s.size : Int) := by omega
      have i3 : (3 : Int) < (s.size : Int) := by omega
      have i4 : (4 : Int) < (s.size : Int) := by omega
      have i5 : (5 : Int) < (s.size : Int) := by omega
      have i9 : (9 : Int) < (s.size : Int) := by omega
      unfold isN at hN
      have WAYS : (n0 ≠ 0) ∨ (n0 = 0 ∧ n1 ≠ 0) ∨ (n0 = 0 ∧ n1 = 0 ∧ n2 ≠ 1 ∧ n2 ≠ 2) ∨ (n0 = 0 ∧ n1 = 0 ∧ n2 = 1) ∨ (n0 = 0 ∧ n1 = 0 ∧ n2 = 2) := by omega
      have WAY3 : (n3 ≠ 0) ∨ (n3 = 0 ∧ n4 = 0 ∧ n5 = 0) ∨ (n3 = 0 ∧ n4 ≠ 0 ∧ n9 ≠ 0) ∨ (n3 = 0 ∧ n4 ≠ 0 ∧ n9 = 0) ∨ (n3 = 0 ∧ n4 = 0 ∧ n5 ≠ 0 ∧ n9 ≠ 0) ∨ (n3 = 0 ∧ n4 = 0 ∧ n5 ≠ 0 ∧ n9 = 0) := by omega
      clear h10 HBYTES
      rcases WAYS with hq | ⟨rfl, hq⟩ | ⟨rfl, rfl, hq, hq2⟩ | ⟨rfl, rfl, rfl⟩ | ⟨rfl, rfl, rfl⟩
      · have f0 : (((n0 : Nat) : Int) == 0) = false := by rw [beq_eq_false_iff_ne]; omega
        have g0 : ¬ ((n0 : Nat) : Int) = 0 := by omega
        have hv : B = false := by rw [← hN]; first | (simp; done) | (simp; omega)
        subst hv
        clear hN WAY3
        go_wp2_with fail
        go_meet
        exact ⟨rfl, rfl⟩
      · have f1 : (((n1 : Nat) : Int) == 0) = false := by rw [beq_eq_false_iff_ne]; omega
        have g1 : ¬ ((n1 : Nat) : Int) = 0 := by omega
        have hv : B = false := by rw [← hN]; first | (simp; done) | (simp; omega)
        subst hv
        clear hN WAY3
        go_wp2_with fail
        go_meet
        exact ⟨rfl, rfl⟩
      · have f2a : (((n2 : Nat) : Int) == 1) = false := by rw [beq_eq_false_iff_ne]; omega
        have g2a : ¬ ((n2 : Nat) : Int) = 1 := by omega
        have f2b : (((n2 : Nat) : Int) == 2) = false := by rw [beq_eq_false_iff_ne]; omega
        have g2b : ¬ ((n2 : Nat) : Int) = 2 := by omega
        have hv : B = false := by rw [← hN]; first | (simp; done) | (simp; omega)
        subst hv
        clear hN WAY3
        go_wp2_with fail
        go_meet
        exact ⟨rfl, rfl⟩
      · rcases WAY3 with hq | ⟨rfl, rfl, rfl⟩ | ⟨rfl, hq, hq2⟩ | ⟨rfl, hq, rfl⟩ | ⟨rfl, rfl, hq, hq2⟩ | ⟨rfl, rfl, hq, rfl⟩
        · have f3 : (((n3 : Nat) : Int) == 0) = false := by rw [beq_eq_false_iff_ne]; omega
          have g3 : ¬ ((n3 : Nat) : Int) = 0 := by omega
          have hv : B = false := by rw [← hN]; first | (simp; done) | (simp; omega)
          subst hv
          clear hN
          go_wp2_with fail
          go_meet
          exact ⟨rfl, rfl⟩
        · have hv : B = false := by rw [← hN]; first | (simp; done) | (simp; omega)
          subst hv
          clear hN
          go_wp2_with fail
          go_meet
          exact ⟨rfl, rfl⟩
        · have f4n : (((n4 : Nat) : Int) != 0) = true := by rw [bne_iff_ne]; omega
          have f4 : (((n4 : Nat) : Int) == 0) = false := by rw [beq_eq_false_iff_ne]; omega
          have g4 : ¬ ((n4 : Nat) : Int) = 0 := by omega
          have f9 : (((n9 : Nat) : Int) == 0) = false := by rw [beq_eq_false_iff_ne]; omega
          have g9 : ¬ ((n9 : Nat) : Int) = 0 := by omega
          have hv : B = false := by rw [← hN]; first | (simp; done) | (simp; omega)
          subst hv
          clear hN
          go_wp2_with fail
          go_meet
          exact ⟨rfl, rfl⟩
        · have f4n : (((n4 : Nat) : Int) != 0) = true := by rw [bne_iff_ne]; omega
          have f4 : (((n4 : Nat) : Int) == 0) = false := by rw [beq_eq_false_iff_ne]; omega
          have g4 : ¬ ((n4 : Nat) : Int) = 0 := by omega
          have hv : B = true := by rw [← hN]; first | (simp; done) | (simp; omega)
          subst hv
          clear hN
          go_wp2_with fail
          go_meet
          exact ⟨rfl, rfl⟩
        · have f5n : (((n5 : Nat) : Int) != 0) = true := by rw [bne_iff_ne]; omega
          have f5 : (((n5 : Nat) : Int) == 0) = false := by rw [beq_eq_false_iff_ne]; omega
          have g5 : ¬ ((n5 : Nat) : Int) = 0 := by omega
          have f9 : (((n9 : Nat) : Int) == 0) = false := by rw [beq_eq_false_iff_ne]; omega
          have g9 : ¬ ((n9 : Nat) : Int) = 0 := by omega
          have hv : B = false := by rw [← hN]; first | (simp; done) | (simp; omega)
          subst hv
          clear hN
          go_wp2_with fail
          go_meet
          exact ⟨rfl, rfl⟩
        · have f5n : (((n5 : Nat) : Int) != 0) = true := by rw [bne_iff_ne]; omega
          have f5 : (((n5 : Nat) : Int) == 0) = false := by rw [beq_eq_false_iff_ne]; omega
          have g5 : ¬ ((n5 : Nat) : Int) = 0 := by omega
          have hv : B = true := by rw [← hN]; first | (simp; done) | (simp; omega)
          subst hv
          clear hN
          go_wp2_with fail
          go_meet
          exact ⟨rfl, rfl⟩
      · rcases WAY3 with hq | ⟨rfl, rfl, rfl⟩ | ⟨rfl, hq, hq2⟩ | ⟨rfl, hq, rfl⟩ | ⟨rfl, rfl, hq, hq2⟩ | ⟨rfl, rfl, hq, rfl⟩
        · have f3 : (((n3 : Nat) : Int) == 0) = false := by rw [beq_eq_false_iff_ne]; omega
          have g3 : ¬ ((n3 : Nat) : Int) = 0 := by omega
          have hv : B = false := by rw [← hN]; first | (simp; done) | (simp; omega)
          subst hv
          clear hN
          go_wp2_with fail
          go_meet
          exact ⟨rfl, rfl⟩
        · have hv : B = false := by rw [← hN]; first | (simp; done) | (simp; omega)
          subst hv
          clear hN
          go_wp2_with fail
          go_meet
          exact ⟨rfl, rfl⟩
        · have f4n : (((n4 : Nat) : Int) != 0) = true := by rw [bne_iff_ne]; omega
          have f4 : (((n4 : Nat) : Int) == 0) = false := by rw [beq_eq_false_iff_ne]; omega
          have g4 : ¬ ((n4 : Nat) : Int) = 0 := by omega
          have f9 : (((n9 : Nat) : Int) == 0) = false := by rw [beq_eq_false_iff_ne]; omega
          have g9 : ¬ ((n9 : Nat) : Int) = 0 := by omega
          have hv : B = false := by rw [← hN]; first | (simp; done) | (simp; omega)
          subst hv
          clear hN
          go_wp2_with fail
          go_meet
          exact ⟨rfl, rfl⟩
        · have f4n : (((n4 : Nat) : Int) != 0) = true := by rw [bne_iff_ne]; omega
          have f4 : (((n4 : Nat) : Int) == 0) = false := by rw [beq_eq_false_iff_ne]; omega
          have g4 : ¬ ((n4 : Nat) : Int) = 0 := by omega
          have hv : B = true := by rw [← hN]; first | (simp; done) | (simp; omega)
          subst hv
          clear hN
          go_wp2_with fail
          go_meet
          exact ⟨rfl, rfl⟩
        · have f5n : (((n5 : Nat) : Int) != 0) = true := by rw [bne_iff_ne]; omega
          have f5 : (((n5 : Nat) : Int) == 0) = false := by rw [beq_eq_false_iff_ne]; omega
          have g5 : ¬ ((n5 : Nat) : Int) = 0 := by omega
          have f9 : (((n9 : Nat) : Int) == 0) = false := by rw [beq_eq_false_iff_ne]; omega
          have g9 : ¬ ((n9 : Nat) : Int) = 0 := by omega
          have hv : B = false := by rw [← hN]; first | (simp; done) | (simp; omega)
          subst hv
          clear hN
          go_wp2_with fail
          go_meet
          exact ⟨rfl, rfl⟩
        · have f5n : (((n5 : Nat) : Int) != 0) = true := by rw [bne_iff_ne]; omega
          have f5 : (((n5 : Nat) : Int) == 0) = false := by rw [beq_eq_false_iff_ne]; omega
          have g5 : ¬ ((n5 : Nat) : Int) = 0 := by omega
          have hv : B = true := by rw [← hN]; first | (simp; done) | (simp; omega)
          subst hv
          clear hN
          go_wp2_with fail
          go_meet
          exact ⟨rfl, rfl⟩
    · have c10 : ¬ (10 : Int) ≤ (s.size : Int) := by omega
      have hv : B = false := by rw [← HB.out]; unfold isB; rw [decide_eq_false h10, Bool.false_and]
      subst hv
      clear HBYTES
      go_wp2_with fail
      go_meet
      exact ⟨rfl, rfl⟩
  case rest =>
    obtain ⟨rfl, rfl⟩ := hcut
    clear HBYTES HB
    go_wp2_with fail
    refine (KI.out _).mono ?_
    rintro e w' ⟨rfl, rfl⟩
    go_wp2_with fail
    refine (KG.out _).mono ?_
    rintro e w1 ⟨rfl, g1⟩
    by_cases hneg : i < 0
    · clear h22 hb1 hb2
      have G1 := Lib.hid (gb_trans g1 (World.grownBy_alloc w1 (.cells #[.int .i64 0, .int .i64 0, .int .i64 0, .int .i64 0, .int .i64 0, .int .i64 0] 33) none))
      clear g1
      go_wp2_with fail
      refine (KA.out _).mono ?_
      rintro e w2 ⟨rfl, g2⟩
      have G2 := Lib.hid (gb_trans G1.out g2)
      clear g2
      go_wp2
      go_ret
      exact ⟨rfl, G2.out⟩
    · by_cases hbig : 100 < i
      · clear h22 hb1 hb2
        have G1 := Lib.hid (gb_trans g1 (World.grownBy_alloc w1 (.cells #[.int .i64 0, .int .i64 0, .int .i64 0, .int .i64 0, .int .i64 0, .int .i64 0] 33) none))
        clear g1
        go_wp2_with fail
        refine (KA.out _).mono ?_
        rintro e w2 ⟨rfl, g2⟩
        have G2 := Lib.hid (gb_trans G1.out g2)
        clear g2
        go_wp2
        go_ret
        exact ⟨rfl, G2.out⟩
      · have m1 : IntKind.i64.wrap (16 * i) = 16 * i := IntWalk.i64_in _ (by omega)
        have m2 : IntKind.i64.wrap (22 + 16 * i) = 22 + 16 * i := IntWalk.i64_in _ (by omega)
        have e2 : (s.size : Int) < 22 + 16 * i := by omega
        have e3 : decide ((s.size : Int) < 22 + 16 * i) = true := decide_eq_true e2
        clear h22 hb1 hb2
        have G1 := Lib.hid (gb_trans g1 (World.grownBy_alloc w1 (.cells #[.int .i64 0, .int .i64 0, .int .i64 0, .int .i64 0, .int .i64 0, .int .i64 0] 33) none))
        clear g1
        go_wp2_with fail
        refine (KA.out _).mono ?_
        rintro e w2 ⟨rfl, g2⟩
        have G2 := Lib.hid (gb_trans G1.out g2)
        clear g2
        go_wp2
        go_ret
        exact ⟨rfl, G2.out⟩

theorem gets_any (s : ByteArray) (i : Int) (hb1 : -9223372036854775808 ≤ i) (hb2 : i ≤ 9223372036854775807) (W : World) :
    Calls Try.prog 4 #[.string s, .int .i64 i] W fun e w' => e = .returned (.bool true) ∧ W.grownBy w' none := by
  by_cases hs : 600 < s.size
  · exact gets_long s i hs W
  · by_cases h : i < 0 ∨ (s.size : Int) < 22 + 16 * i
    · exact gets_no s (by omega) i h hb1 hb2 W
    · have e : i = ((i.toNat : Nat) : Int) := by omega
      rw [e]
      exact gets_yes s (by omega) i.toNat (by omega) (by omega) W

end Go.Proofs.Ytajbpcaghmcplaa.Id
