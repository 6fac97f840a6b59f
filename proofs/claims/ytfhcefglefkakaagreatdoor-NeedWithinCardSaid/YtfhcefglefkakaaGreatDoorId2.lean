/- Layer 24: what is wrong with six bytes; entries; which is better (written by wip/gen/id2.py). -/
import Derived.Test.YtfhcefglefkakaaGreatDoorId1
import Derived.Deep.RegionHeld3
import Derived.Deep.QuietTactic
import Derived.BigQuiet
import Derived.BigRegion
import Derived.Deep.Cut
namespace Go.Proofs.YtfhcefglefkakaaGreatDoor.Id
open Go.ChangeShapes Go.WideShapes Go.ChangeAt Go.RowKit
open Go.Proofs.YtfhcefglefkakaaGreatDoor.Le Go.Proofs.YtfhcefglefkakaaGreatDoor.Sr Go.Proofs.YtfhcefglefkakaaGreatDoor.Dh
set_option linter.unusedVariables false

set_option maxRecDepth 100000 in
theorem wrong_calls (z : ByteArray) (hz : z.size = 6) (W : World) :
    Calls Tryz.prog 79 #[.string z] W fun e w' => e = .returned (.tuple #[.int .i64 (wrP z), .bool (wrB z)]) ∧ W = w' := by
  have K0 := fun u => pair_calls z 0 (by omega) (by omega) u
  have K2 := fun u => pair_calls z 2 (by omega) (by omega) u
  have K4 := fun u => pair_calls z 4 (by omega) (by omega) u
  unfold wrP wrB
  obtain ⟨n, hn⟩ : ∃ n, w2 z 0 = n := ⟨_, rfl⟩
  obtain ⟨t, ht⟩ : ∃ n, w2 z 2 = n := ⟨_, rfl⟩
  obtain ⟨c, hc⟩ : ∃ n, w2 z 4 = n := ⟨_, rfl⟩
  rw [hn] at K0 ⊢
  rw [ht] at K2 ⊢
  rw [hc] at K4 ⊢
  have K0 := Lib.hid K0
  have K2 := Lib.hid K2
  have K4 := Lib.hid K4
  clear hn ht hc hz
  by_cases h0 : n = 0
  · have f0 : (((n : Nat) : Int) != 0) = false := by rw [bne_eq_false_iff_eq]; omega
    have f0' : ((n : Nat) : Int) = 0 := by omega
    by_cases h2 : t ≠ 1 ∧ t ≠ 2
    · have f1 : (((t : Nat) : Int) != 1) = true := by rw [bne_iff_ne]; omega
      have f2 : (((t : Nat) : Int) != 2) = true := by rw [bne_iff_ne]; omega
      have f1' : ¬ ((t : Nat) : Int) = 1 := by omega
      have f2' : ¬ ((t : Nat) : Int) = 2 := by omega
      rw [if_neg (by simpa using h0), if_pos h2, decide_eq_true (.inr (.inl h2))]
      clear h0 h2
      go_enter Tryz.func79, Tryz.ntmps79
      go_wp2_with fail
      refine (K2.out _).mono ?_
      rintro e w' ⟨rfl, rfl⟩
      go_wp2_with fail
      refine (K0.out _).mono ?_
      rintro e w' ⟨rfl, rfl⟩
      go_wp2
      go_ret2
      exact ⟨rfl, rfl⟩
    · by_cases h4 : c = 0
      · subst h4
        rw [if_neg (by simpa using h0), if_neg h2, if_pos rfl, decide_eq_true (.inr (.inr rfl))]
        obtain rfl | rfl : t = 1 ∨ t = 2 := by omega
        all_goals
          clear h0 h2
          go_enter Tryz.func79, Tryz.ntmps79
          go_wp2_with fail
          refine (K2.out _).mono ?_
          rintro e w' ⟨rfl, rfl⟩
          go_wp2_with fail
          refine (K0.out _).mono ?_
          rintro e w' ⟨rfl, rfl⟩
          go_wp2_with fail
          refine (K4.out _).mono ?_
          rintro e w' ⟨rfl, rfl⟩
          go_wp2
          go_ret2
          exact ⟨rfl, rfl⟩
      · have g1 : (((c : Nat) : Int) == 0) = false := by rw [beq_eq_false_iff_ne]; omega
        have g2 : ¬ ((c : Nat) : Int) = 0 := by omega
        rw [if_neg (by simpa using h0), if_neg h2, if_neg h4, decide_eq_false (show ¬ _ from by rintro (h | h | h) <;> contradiction)]
        obtain rfl | rfl : t = 1 ∨ t = 2 := by omega
        all_goals
          clear h0 h2 h4
          go_enter Tryz.func79, Tryz.ntmps79
          go_wp2_with fail
          refine (K2.out _).mono ?_
          rintro e w' ⟨rfl, rfl⟩
          go_wp2_with fail
          refine (K0.out _).mono ?_
          rintro e w' ⟨rfl, rfl⟩
          go_wp2_with fail
          refine (K4.out _).mono ?_
          rintro e w' ⟨rfl, rfl⟩
          go_wp2
          go_ret2
          exact ⟨rfl, rfl⟩
  · have f0 : (((n : Nat) : Int) != 0) = true := by rw [bne_iff_ne]; omega
    have f0' : ¬ ((n : Nat) : Int) = 0 := by omega
    rw [if_pos h0, decide_eq_true (.inl h0)]
    clear h0
    go_enter Tryz.func79, Tryz.ntmps79
    go_wp2_with fail
    refine (K2.out _).mono ?_
    rintro e w' ⟨rfl, rfl⟩
    go_wp2_with fail
    refine (K0.out _).mono ?_
    rintro e w' ⟨rfl, rfl⟩
    go_wp2
    go_ret2
    exact ⟨rfl, rfl⟩

theorem area_calls (w h a b s p A : Int) (hA : w * h = A) (hw : IntKind.i64.wrap A = A) (W : World) :
    Calls Tryz.prog 154 #[.agg #[.int .i64 w, .int .i64 h, .int .i64 a, .int .i64 b, .int .i64 s, .int .i64 p]] W fun e w' => e = .returned (.int .i64 A) ∧ W.grownBy w' none := by
  go_enter Tryz.func154, Tryz.ntmps154
  go_wp2
  go_ret
  exact ⟨rfl, World.grownBy_alloc _ _ _⟩

/-- Is an entry better? -/
def btB (c : Bool) (A b A' b' : Int) : Bool := if A ≠ A' then decide (A' < A) else !c && decide (b' < b)

set_option maxRecDepth 100000 in
set_option maxHeartbeats 2000000 in
theorem better_calls (w1 h1 a1 b1 s1 p1 A1 w2 h2 a2 b2 s2 p2 A2 : Int) (c : Bool) (e1 : w1 * h1 = A1) (g1 : IntKind.i64.wrap A1 = A1) (e2 : w2 * h2 = A2) (g2 : IntKind.i64.wrap A2 = A2) (W : World) :
    Calls Tryz.prog 128 #[.agg #[.int .i64 w1, .int .i64 h1, .int .i64 a1, .int .i64 b1, .int .i64 s1, .int .i64 p1], .agg #[.int .i64 w2, .int .i64 h2, .int .i64 a2, .int .i64 b2, .int .i64 s2, .int .i64 p2], .bool c] W fun e w' => e = .returned (.bool (btB c A1 b1 A2 b2)) ∧ W.grownBy w' none := by
  have K1 := Lib.hid (fun u => area_calls w1 h1 a1 b1 s1 p1 A1 e1 g1 u)
  have K2 := Lib.hid (fun u => area_calls w2 h2 a2 b2 s2 p2 A2 e2 g2 u)
  clear e1 g1 e2 g2
  unfold btB
  have hor : A1 = A2 ∨ A1 ≠ A2 := by omega
  rcases hor with hE | hN
  · rw [if_neg (by simpa using hE)]
    have f1 : (A1 != A2) = false := by rw [bne_eq_false_iff_eq]; exact hE
    have f2 : (A1 == A2) = true := by rw [beq_iff_eq]; exact hE
    clear hE
    go_enter Tryz.func128, Tryz.ntmps128
    go_upto_region 1 with fail
    have B0 : ((W.alloc (.cells #[.int .i64 w1, .int .i64 h1, .int .i64 a1, .int .i64 b1, .int .i64 s1, .int .i64 p1] 135)).alloc (.cells #[.int .i64 w2, .int .i64 h2, .int .i64 a2, .int .i64 b2, .int .i64 s2, .int .i64 p2] 135)).heap[W.heap.size]? = some (.cells #[.int .i64 w1, .int .i64 h1, .int .i64 a1, .int .i64 b1, .int .i64 s1, .int .i64 p1] 135 (0, 0)) := blk_al blk_at _
    have D0 : ((W.alloc (.cells #[.int .i64 w1, .int .i64 h1, .int .i64 a1, .int .i64 b1, .int .i64 s1, .int .i64 p1] 135)).alloc (.cells #[.int .i64 w2, .int .i64 h2, .int .i64 a2, .int .i64 b2, .int .i64 s2, .int .i64 p2] 135)).heap[W.heap.size + 1]? = some (.cells #[.int .i64 w2, .int .i64 h2, .int .i64 a2, .int .i64 b2, .int .i64 s2, .int .i64 p2] 135 (0, 0)) := by rw [← size_alloc W (.cells #[.int .i64 w1, .int .i64 h1, .int .i64 a1, .int .i64 b1, .int .i64 s1, .int .i64 p1] 135)]; exact blk_at
    have G0 : W.grownBy ((W.alloc (.cells #[.int .i64 w1, .int .i64 h1, .int .i64 a1, .int .i64 b1, .int .i64 s1, .int .i64 p1] 135)).alloc (.cells #[.int .i64 w2, .int .i64 h2, .int .i64 a2, .int .i64 b2, .int .i64 s2, .int .i64 p2] 135)) none := gb_trans (World.grownBy_alloc _ _ none) (World.grownBy_alloc _ _ none)
    generalize ((W.alloc (.cells #[.int .i64 w1, .int .i64 h1, .int .i64 a1, .int .i64 b1, .int .i64 s1, .int .i64 p1] 135)).alloc (.cells #[.int .i64 w2, .int .i64 h2, .int .i64 a2, .int .i64 b2, .int .i64 s2, .int .i64 p2] 135)) = w0 at B0 D0 G0 ⊢
    have x0 := blk_cell B0 0
    have v0 := blk_cell D0 0
    have x1 := blk_cell B0 1
    have v1 := blk_cell D0 1
    have x2 := blk_cell B0 2
    have v2 := blk_cell D0 2
    have x3 := blk_cell B0 3
    have v3 := blk_cell D0 3
    have x4 := blk_cell B0 4
    have v4 := blk_cell D0 4
    have x5 := blk_cell B0 5
    have v5 := blk_cell D0 5
    simp only [List.getElem?_toArray, List.getElem?_cons_succ, List.getElem?_cons_zero] at x0 v0 x1 v1 x2 v2 x3 v3 x4 v4 x5 v5
    have HB0 := Lib.hid B0
    have HD0 := Lib.hid D0
    have HG0 := Lib.hid G0
    clear B0 D0 G0
    go_region_held3 (fun u => u.cell? ⟨W.heap.size, 0, none⟩ = some (.int .i64 w1) ∧ u.cell? ⟨W.heap.size, 1, none⟩ = some (.int .i64 h1) ∧ u.cell? ⟨W.heap.size, 2, none⟩ = some (.int .i64 a1) ∧ u.cell? ⟨W.heap.size, 3, none⟩ = some (.int .i64 b1) ∧ u.cell? ⟨W.heap.size, 4, none⟩ = some (.int .i64 s1) ∧ u.cell? ⟨W.heap.size, 5, none⟩ = some (.int .i64 p1) ∧ u.cell? ⟨W.heap.size + 1, 0, none⟩ = some (.int .i64 w2) ∧ u.cell? ⟨W.heap.size + 1, 1, none⟩ = some (.int .i64 h2) ∧ u.cell? ⟨W.heap.size + 1, 2, none⟩ = some (.int .i64 a2) ∧ u.cell? ⟨W.heap.size + 1, 3, none⟩ = some (.int .i64 b2) ∧ u.cell? ⟨W.heap.size + 1, 4, none⟩ = some (.int .i64 s2) ∧ u.cell? ⟨W.heap.size + 1, 5, none⟩ = some (.int .i64 p2)) (go_keep)
      (first
        | (go_at_call 154; with_reducible refine (K1.out _).mono ?_; rintro e u1 ⟨rfl, gx⟩; have G1 := Lib.hid (show w0.grownBy u1 none from gb_trans (gb_drew w0 none) gx); have BB := old0 G1.out HB0.out (blk_lt HB0.out) (by simp); have DD := old0 G1.out HD0.out (blk_lt HD0.out) (by simp); have y0 := blk_cell BB 0; have z0 := blk_cell DD 0; have y1 := blk_cell BB 1; have z1 := blk_cell DD 1; have y2 := blk_cell BB 2; have z2 := blk_cell DD 2; have y3 := blk_cell BB 3; have z3 := blk_cell DD 3; have y4 := blk_cell BB 4; have z4 := blk_cell DD 4; have y5 := blk_cell BB 5; have z5 := blk_cell DD 5; simp only [List.getElem?_toArray, List.getElem?_cons_succ, List.getElem?_cons_zero] at y0 z0 y1 z1 y2 z2 y3 z3 y4 z4 y5 z5; clear BB DD gx)
        | (go_at_call 154; with_reducible refine (K2.out _).mono ?_; rintro e u2 ⟨rfl, gx⟩; have G2 := Lib.hid (show w0.grownBy u2 none from gb_trans G1.out gx); have BB := old0 G2.out HB0.out (blk_lt HB0.out) (by simp); have DD := old0 G2.out HD0.out (blk_lt HD0.out) (by simp); have y0 := blk_cell BB 0; have z0 := blk_cell DD 0; have y1 := blk_cell BB 1; have z1 := blk_cell DD 1; have y2 := blk_cell BB 2; have z2 := blk_cell DD 2; have y3 := blk_cell BB 3; have z3 := blk_cell DD 3; have y4 := blk_cell BB 4; have z4 := blk_cell DD 4; have y5 := blk_cell BB 5; have z5 := blk_cell DD 5; simp only [List.getElem?_toArray, List.getElem?_cons_succ, List.getElem?_cons_zero] at y0 z0 y1 z1 y2 z2 y3 z3 y4 z4 y5 z5; clear BB DD gx))
    all_goals
      have BB := old0 G2.out HB0.out (blk_lt HB0.out) (by simp)
      have DD := old0 G2.out HD0.out (blk_lt HD0.out) (by simp)
      have GG := Lib.hid (gb_trans HG0.out G2.out)
      clear G1 G2 HB0 HD0 HG0
      clear x0 v0 x1 v1 x2 v2 x3 v3 x4 v4 x5 v5
      have m3 := blk_cell BB 3
      have n3 := blk_cell DD 3
      simp only [List.getElem?_toArray, List.getElem?_cons_succ, List.getElem?_cons_zero] at m3 n3
      clear BB DD
      cases c
      all_goals
        go_wp2
        go_ret
        exact ⟨rfl, GG.out⟩
  · rw [if_pos hN]
    have f1 : (A1 != A2) = true := by rw [bne_iff_ne]; exact hN
    have f2 : ¬ A1 = A2 := hN
    clear hN
    go_enter Tryz.func128, Tryz.ntmps128
    go_upto_region 1 with fail
    have B0 : ((W.alloc (.cells #[.int .i64 w1, .int .i64 h1, .int .i64 a1, .int .i64 b1, .int .i64 s1, .int .i64 p1] 135)).alloc (.cells #[.int .i64 w2, .int .i64 h2, .int .i64 a2, .int .i64 b2, .int .i64 s2, .int .i64 p2] 135)).heap[W.heap.size]? = some (.cells #[.int .i64 w1, .int .i64 h1, .int .i64 a1, .int .i64 b1, .int .i64 s1, .int .i64 p1] 135 (0, 0)) := blk_al blk_at _
    have D0 : ((W.alloc (.cells #[.int .i64 w1, .int .i64 h1, .int .i64 a1, .int .i64 b1, .int .i64 s1, .int .i64 p1] 135)).alloc (.cells #[.int .i64 w2, .int .i64 h2, .int .i64 a2, .int .i64 b2, .int .i64 s2, .int .i64 p2] 135)).heap[W.heap.size + 1]? = some (.cells #[.int .i64 w2, .int .i64 h2, .int .i64 a2, .int .i64 b2, .int .i64 s2, .int .i64 p2] 135 (0, 0)) := by rw [← size_alloc W (.cells #[.int .i64 w1, .int .i64 h1, .int .i64 a1, .int .i64 b1, .int .i64 s1, .int .i64 p1] 135)]; exact blk_at
    have G0 : W.grownBy ((W.alloc (.cells #[.int .i64 w1, .int .i64 h1, .int .i64 a1, .int .i64 b1, .int .i64 s1, .int .i64 p1] 135)).alloc (.cells #[.int .i64 w2, .int .i64 h2, .int .i64 a2, .int .i64 b2, .int .i64 s2, .int .i64 p2] 135)) none := gb_trans (World.grownBy_alloc _ _ none) (World.grownBy_alloc _ _ none)
    generalize ((W.alloc (.cells #[.int .i64 w1, .int .i64 h1, .int .i64 a1, .int .i64 b1, .int .i64 s1, .int .i64 p1] 135)).alloc (.cells #[.int .i64 w2, .int .i64 h2, .int .i64 a2, .int .i64 b2, .int .i64 s2, .int .i64 p2] 135)) = w0 at B0 D0 G0 ⊢
    have x0 := blk_cell B0 0
    have v0 := blk_cell D0 0
    have x1 := blk_cell B0 1
    have v1 := blk_cell D0 1
    have x2 := blk_cell B0 2
    have v2 := blk_cell D0 2
    have x3 := blk_cell B0 3
    have v3 := blk_cell D0 3
    have x4 := blk_cell B0 4
    have v4 := blk_cell D0 4
    have x5 := blk_cell B0 5
    have v5 := blk_cell D0 5
    simp only [List.getElem?_toArray, List.getElem?_cons_succ, List.getElem?_cons_zero] at x0 v0 x1 v1 x2 v2 x3 v3 x4 v4 x5 v5
    have HB0 := Lib.hid B0
    have HD0 := Lib.hid D0
    have HG0 := Lib.hid G0
    clear B0 D0 G0
    go_region_held3 (fun u => u.cell? ⟨W.heap.size, 0, none⟩ = some (.int .i64 w1) ∧ u.cell? ⟨W.heap.size, 1, none⟩ = some (.int .i64 h1) ∧ u.cell? ⟨W.heap.size, 2, none⟩ = some (.int .i64 a1) ∧ u.cell? ⟨W.heap.size, 3, none⟩ = some (.int .i64 b1) ∧ u.cell? ⟨W.heap.size, 4, none⟩ = some (.int .i64 s1) ∧ u.cell? ⟨W.heap.size, 5, none⟩ = some (.int .i64 p1) ∧ u.cell? ⟨W.heap.size + 1, 0, none⟩ = some (.int .i64 w2) ∧ u.cell? ⟨W.heap.size + 1, 1, none⟩ = some (.int .i64 h2) ∧ u.cell? ⟨W.heap.size + 1, 2, none⟩ = some (.int .i64 a2) ∧ u.cell? ⟨W.heap.size + 1, 3, none⟩ = some (.int .i64 b2) ∧ u.cell? ⟨W.heap.size + 1, 4, none⟩ = some (.int .i64 s2) ∧ u.cell? ⟨W.heap.size + 1, 5, none⟩ = some (.int .i64 p2)) (go_keep)
      (first
        | (go_at_call 154; with_reducible refine (K1.out _).mono ?_; rintro e u1 ⟨rfl, gx⟩; have G1 := Lib.hid (show w0.grownBy u1 none from gb_trans (gb_drew w0 none) gx); have BB := old0 G1.out HB0.out (blk_lt HB0.out) (by simp); have DD := old0 G1.out HD0.out (blk_lt HD0.out) (by simp); have y0 := blk_cell BB 0; have z0 := blk_cell DD 0; have y1 := blk_cell BB 1; have z1 := blk_cell DD 1; have y2 := blk_cell BB 2; have z2 := blk_cell DD 2; have y3 := blk_cell BB 3; have z3 := blk_cell DD 3; have y4 := blk_cell BB 4; have z4 := blk_cell DD 4; have y5 := blk_cell BB 5; have z5 := blk_cell DD 5; simp only [List.getElem?_toArray, List.getElem?_cons_succ, List.getElem?_cons_zero] at y0 z0 y1 z1 y2 z2 y3 z3 y4 z4 y5 z5; clear BB DD gx)
        | (go_at_call 154; with_reducible refine (K2.out _).mono ?_; rintro e u2 ⟨rfl, gx⟩; have G2 := Lib.hid (show w0.grownBy u2 none from gb_trans G1.out gx); have BB := old0 G2.out HB0.out (blk_lt HB0.out) (by simp); have DD := old0 G2.out HD0.out (blk_lt HD0.out) (by simp); have y0 := blk_cell BB 0; have z0 := blk_cell DD 0; have y1 := blk_cell BB 1; have z1 := blk_cell DD 1; have y2 := blk_cell BB 2; have z2 := blk_cell DD 2; have y3 := blk_cell BB 3; have z3 := blk_cell DD 3; have y4 := blk_cell BB 4; have z4 := blk_cell DD 4; have y5 := blk_cell BB 5; have z5 := blk_cell DD 5; simp only [List.getElem?_toArray, List.getElem?_cons_succ, List.getElem?_cons_zero] at y0 z0 y1 z1 y2 z2 y3 z3 y4 z4 y5 z5; clear BB DD gx))
    all_goals
      have BB := old0 G2.out HB0.out (blk_lt HB0.out) (by simp)
      have DD := old0 G2.out HD0.out (blk_lt HD0.out) (by simp)
      have GG := Lib.hid (gb_trans HG0.out G2.out)
      have HB2 := Lib.hid BB
      have HD2 := Lib.hid DD
      clear G1 G2 HB0 HD0 HG0
      clear x0 v0 x1 v1 x2 v2 x3 v3 x4 v4 x5 v5
      have m0 := blk_cell BB 0
      have n0 := blk_cell DD 0
      have m1 := blk_cell BB 1
      have n1 := blk_cell DD 1
      have m2 := blk_cell BB 2
      have n2 := blk_cell DD 2
      have m3 := blk_cell BB 3
      have n3 := blk_cell DD 3
      have m4 := blk_cell BB 4
      have n4 := blk_cell DD 4
      have m5 := blk_cell BB 5
      have n5 := blk_cell DD 5
      simp only [List.getElem?_toArray, List.getElem?_cons_succ, List.getElem?_cons_zero] at m0 n0 m1 n1 m2 n2 m3 n3 m4 n4 m5 n5
      clear BB DD
      go_upto_region 2 with fail
      go_region_held3 (fun u => u.cell? ⟨W.heap.size, 0, none⟩ = some (.int .i64 w1) ∧ u.cell? ⟨W.heap.size, 1, none⟩ = some (.int .i64 h1) ∧ u.cell? ⟨W.heap.size, 2, none⟩ = some (.int .i64 a1) ∧ u.cell? ⟨W.heap.size, 3, none⟩ = some (.int .i64 b1) ∧ u.cell? ⟨W.heap.size, 4, none⟩ = some (.int .i64 s1) ∧ u.cell? ⟨W.heap.size, 5, none⟩ = some (.int .i64 p1) ∧ u.cell? ⟨W.heap.size + 1, 0, none⟩ = some (.int .i64 w2) ∧ u.cell? ⟨W.heap.size + 1, 1, none⟩ = some (.int .i64 h2) ∧ u.cell? ⟨W.heap.size + 1, 2, none⟩ = some (.int .i64 a2) ∧ u.cell? ⟨W.heap.size + 1, 3, none⟩ = some (.int .i64 b2) ∧ u.cell? ⟨W.heap.size + 1, 4, none⟩ = some (.int .i64 s2) ∧ u.cell? ⟨W.heap.size + 1, 5, none⟩ = some (.int .i64 p2)) (go_keep)
        (first
          | (go_at_call 154; with_reducible refine (K1.out _).mono ?_; rintro e u3 ⟨rfl, gx⟩; have G3 := Lib.hid (show u2.grownBy u3 none from gb_trans (gb_drew u2 none) gx); have BB := old0 G3.out HB2.out (blk_lt HB2.out) (by simp); have DD := old0 G3.out HD2.out (blk_lt HD2.out) (by simp); have y0 := blk_cell BB 0; have z0 := blk_cell DD 0; have y1 := blk_cell BB 1; have z1 := blk_cell DD 1; have y2 := blk_cell BB 2; have z2 := blk_cell DD 2; have y3 := blk_cell BB 3; have z3 := blk_cell DD 3; have y4 := blk_cell BB 4; have z4 := blk_cell DD 4; have y5 := blk_cell BB 5; have z5 := blk_cell DD 5; simp only [List.getElem?_toArray, List.getElem?_cons_succ, List.getElem?_cons_zero] at y0 z0 y1 z1 y2 z2 y3 z3 y4 z4 y5 z5; clear BB DD gx)
          | (go_at_call 154; with_reducible refine (K2.out _).mono ?_; rintro e u4 ⟨rfl, gx⟩; have G4 := Lib.hid (show u2.grownBy u4 none from gb_trans G3.out gx); have BB := old0 G4.out HB2.out (blk_lt HB2.out) (by simp); have DD := old0 G4.out HD2.out (blk_lt HD2.out) (by simp); have y0 := blk_cell BB 0; have z0 := blk_cell DD 0; have y1 := blk_cell BB 1; have z1 := blk_cell DD 1; have y2 := blk_cell BB 2; have z2 := blk_cell DD 2; have y3 := blk_cell BB 3; have z3 := blk_cell DD 3; have y4 := blk_cell BB 4; have z4 := blk_cell DD 4; have y5 := blk_cell BB 5; have z5 := blk_cell DD 5; simp only [List.getElem?_toArray, List.getElem?_cons_succ, List.getElem?_cons_zero] at y0 z0 y1 z1 y2 z2 y3 z3 y4 z4 y5 z5; clear BB DD gx))
      all_goals
        have G9 := Lib.hid (gb_trans GG.out G4.out)
        clear G3 G4
        go_wp2
        go_ret
        exact ⟨rfl, G9.out⟩

set_option maxRecDepth 100000 in
set_option maxHeartbeats 2000000 in
theorem entry_calls (z : ByteArray) (hz : z.size = 16) (W : World) :
    Calls Tryz.prog 125 #[.string z] W fun e w' => e = .returned (.agg (enV z 0)) ∧ W.grownBy w' none := by
  have KW := fun u => side_calls (bn z 0) (bn_lt _ _) u
  have KH := fun u => side_calls (bn z 1) (bn_lt _ _) u
  have KA : ∀ u, Calls Tryz.prog 124 #[.string z, .int .i64 4] u fun e w' => e = .returned (.int .i64 (w2 z 4 : Nat)) ∧ u = w' := fun u => pair_calls z 4 (by omega) (by omega) u
  have KB : ∀ u, Calls Tryz.prog 124 #[.string z, .int .i64 6] u fun e w' => e = .returned (.int .i64 (w2 z 6 : Nat)) ∧ u = w' := fun u => pair_calls z 6 (by omega) (by omega) u
  have KS : ∀ u, Calls Tryz.prog 153 #[.string z, .int .i64 8] u fun e w' => e = .returned (.int .i64 (w4 z 8 : Nat)) ∧ u = w' := fun u => long_calls z 8 (by omega) (by omega) u
  have KP : ∀ u, Calls Tryz.prog 153 #[.string z, .int .i64 12] u fun e w' => e = .returned (.int .i64 (w4 z 12 : Nat)) ∧ u = w' := fun u => long_calls z 12 (by omega) (by omega) u
  have i0 : (0 : Int) < (z.size : Int) := by omega
  have i1 : (1 : Int) < (z.size : Int) := by omega
  have l0 : 0 < z.size := by omega
  have l1 : 1 < z.size := by omega
  have j0 : (z[0]'l0).toNat = bn z 0 := bn_at z 0 l0
  have j1 : (z[1]'l1).toNat = bn z 1 := bn_at z 1 l1
  unfold enV eW eH eA eB eS eP
  simp only [Nat.zero_add]
  obtain ⟨a, qa⟩ : ∃ n, w2 z 4 = n := ⟨_, rfl⟩
  rw [qa] at KA ⊢
  have KA := Lib.hid KA
  clear qa
  obtain ⟨b, qb⟩ : ∃ n, w2 z 6 = n := ⟨_, rfl⟩
  rw [qb] at KB ⊢
  have KB := Lib.hid KB
  clear qb
  obtain ⟨s, qs⟩ : ∃ n, w4 z 8 = n := ⟨_, rfl⟩
  rw [qs] at KS ⊢
  have KS := Lib.hid KS
  clear qs
  obtain ⟨p, qp⟩ : ∃ n, w4 z 12 = n := ⟨_, rfl⟩
  rw [qp] at KP ⊢
  have KP := Lib.hid KP
  clear qp
  obtain ⟨w0, qw⟩ : ∃ n, bn z 0 = n := ⟨_, rfl⟩
  rw [qw] at KW j0 ⊢
  obtain ⟨w, rw⟩ : ∃ n, sdI w0 = n := ⟨_, rfl⟩
  rw [rw] at KW ⊢
  have KW := Lib.hid KW
  clear qw rw
  obtain ⟨h0, qh⟩ : ∃ n, bn z 1 = n := ⟨_, rfl⟩
  rw [qh] at KH j1 ⊢
  obtain ⟨h, rh⟩ : ∃ n, sdI h0 = n := ⟨_, rfl⟩
  rw [rh] at KH ⊢
  have KH := Lib.hid KH
  clear qh rh
  have HZ := Lib.hid hz
  clear hz
  go_enter Tryz.func125, Tryz.ntmps125
  go_upto_region 1 with fail
  have R0 := blk_at (w := W) (o := .cells #[.int .i64 0, .int .i64 0, .int .i64 0, .int .i64 0, .int .i64 0, .int .i64 0] 135)
  have G0 := World.grownBy_alloc W (.cells #[.int .i64 0, .int .i64 0, .int .i64 0, .int .i64 0, .int .i64 0, .int .i64 0] 135) none
  generalize W.alloc (.cells #[.int .i64 0, .int .i64 0, .int .i64 0, .int .i64 0, .int .i64 0, .int .i64 0] 135) = w0 at R0 G0 ⊢
  have x0 := blk_cell R0 0
  have y0 := blk_free R0 0
  have x1 := blk_cell R0 1
  have y1 := blk_free R0 1
  have x2 := blk_cell R0 2
  have y2 := blk_free R0 2
  have x3 := blk_cell R0 3
  have y3 := blk_free R0 3
  have x4 := blk_cell R0 4
  have y4 := blk_free R0 4
  have x5 := blk_cell R0 5
  have y5 := blk_free R0 5
  simp only [List.getElem?_toArray, List.getElem?_cons_succ, List.getElem?_cons_zero] at x0 x1 x2 x3 x4 x5
  have hlt := blk_lt R0
  go_region_held3 (fun _ => True) (trivial)
    (first
      | (go_at_call 152; with_reducible refine (KW.out _).mono ?_; rintro e w' ⟨rfl, rfl⟩)
      | (go_at_call 152; with_reducible refine (KH.out _).mono ?_; rintro e w' ⟨rfl, rfl⟩)
      | (go_at_call 124; with_reducible refine (KA.out _).mono ?_; rintro e w' ⟨rfl, rfl⟩)
      | (go_at_call 124; with_reducible refine (KB.out _).mono ?_; rintro e w' ⟨rfl, rfl⟩)
      | (go_at_call 153; with_reducible refine (KS.out _).mono ?_; rintro e w' ⟨rfl, rfl⟩)
      | (go_at_call 153; with_reducible refine (KP.out _).mono ?_; rintro e w' ⟨rfl, rfl⟩))
  all_goals
    refine abs_w (R := fun u => u.heap[W.heap.size]? = some (.cells #[.int .i64 w, .int .i64 h, .int .i64 a, .int .i64 b, .int .i64 s, .int .i64 p] 135 (0, 0)) ∧ W.grownBy u none) ⟨?_, ?_⟩ (fun w5 I => ?_)
    · exact set6 R0 _ _ _ _ _ _
    · exact gb6 G0 (Nat.le_refl _) _ _ _ _ _ _
    clear x0 x1 x2 x3 x4 x5 y0 y1 y2 y3 y4 y5 hlt R0 G0
    have x0 := blk_cell I.1 0
    have x1 := blk_cell I.1 1
    have x2 := blk_cell I.1 2
    have x3 := blk_cell I.1 3
    have x4 := blk_cell I.1 4
    have x5 := blk_cell I.1 5
    simp only [List.getElem?_toArray, List.getElem?_cons_succ, List.getElem?_cons_zero] at x0 x1 x2 x3 x4 x5
    have G5 := Lib.hid I.2
    clear I
    go_wp2
    refine bodyPost_ret (v := .agg #[.int .i64 w, .int .i64 h, .int .i64 a, .int .i64 b, .int .i64 s, .int .i64 p]) (by simp only [results, Tryz.results125]; go_simp) rfl ⟨rfl, G5.out⟩

end Go.Proofs.YtfhcefglefkakaaGreatDoor.Id
