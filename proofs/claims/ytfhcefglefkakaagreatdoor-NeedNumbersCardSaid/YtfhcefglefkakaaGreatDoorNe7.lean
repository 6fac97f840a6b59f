/- Layer 31: the law of numbers (written by wip/gen/ne6.py). -/
import Derived.Test.YtfhcefglefkakaaGreatDoorNe6
import Derived.Deep.RegionHeld3
namespace Go.Proofs.YtfhcefglefkakaaGreatDoor.Ne
open Go.ChangeShapes Go.WideShapes Go.ChangeAt Go.RowKit
open Go.Proofs.YtfhcefglefkakaaGreatDoor.Le Go.Proofs.YtfhcefglefkakaaGreatDoor.Tk Go.Proofs.YtfhcefglefkakaaGreatDoor.Sr Go.Proofs.YtfhcefglefkakaaGreatDoor.Sn
set_option linter.unusedVariables false

set_option maxRecDepth 100000 in
set_option maxHeartbeats 8000000 in
theorem num_ok (f w h b c r n : Int) (G : GdP w h c r n) (W : World) (HT : OrdT W) : Calls Tryz.prog 3 #[planV f w h b c r, .int .i64 n] W fun e w' => e = .returned (.bool true) ∧ W.grownBy w' none := by
  have KN := fun u => need_ok f w h b c r n G u
  have KR := fun u => rneed_ok w h c r n G u
  obtain ⟨B, hB⟩ : ∃ B, 4 * (w * h) + 4 * c + r = B := ⟨_, rfl⟩
  obtain ⟨D, hD⟩ : ∃ D, 8 * n + 32 * (w * h) + 1024 = D := ⟨_, rfl⟩
  rw [hB, hD] at KN KR
  unfold planV budV at KN
  unfold rplV budV at KR
  have KN := Lib.hid KN
  have KR := Lib.hid KR
  have hP : (W.alloc (.cells #[.int .i64 f, .int .i64 w, .int .i64 h, .int .i64 b, .int .i64 c, .int .i64 r] 23)).heap[W.heap.size]? = some (.cells #[.int .i64 f, .int .i64 w, .int .i64 h, .int .i64 b, .int .i64 c, .int .i64 r] 23 (0, 0)) := blk_at
  have KA := Lib.hid (fun u (g : W.grownBy u none) => awake_calls u (HT.grown g (fun b e => by cases e)))
  have HG := Lib.hid (World.grownBy_alloc W (.cells #[.int .i64 f, .int .i64 w, .int .i64 h, .int .i64 b, .int .i64 c, .int .i64 r] 23) none)
  unfold planV
  have e0 : decide ((w : Int) < 1) = false := decide_eq_false (by have := G.1.1; omega)
  have e1 : decide ((16384 : Int) < w) = false := decide_eq_false (by have := G.1.2; omega)
  have e2 : decide ((h : Int) < 1) = false := decide_eq_false (by have := G.2.1.1; omega)
  have e3 : decide ((16384 : Int) < h) = false := decide_eq_false (by have := G.2.1.2; omega)
  have e4 : decide ((c : Int) < 0) = false := decide_eq_false (by have := G.2.2.1.1; omega)
  have e5 : decide ((1099511627776 : Int) < c) = false := decide_eq_false (by have := G.2.2.1.2; omega)
  have e6 : decide ((r : Int) < 0) = false := decide_eq_false (by have := G.2.2.2.1.1; omega)
  have e7 : decide ((1099511627776 : Int) < r) = false := decide_eq_false (by have := G.2.2.2.1.2; omega)
  have e8 : decide ((n : Int) < 0) = false := decide_eq_false (by have := G.2.2.2.2.1; omega)
  have e9 : decide ((1099511627776 : Int) < n) = false := decide_eq_false (by have := G.2.2.2.2.2; omega)
  clear HT G hB hD
  go_enter Tryz.func3, Tryz.ntmps3
  go_wp2_with fail
  generalize W.alloc (.cells #[.int .i64 f, .int .i64 w, .int .i64 h, .int .i64 b, .int .i64 c, .int .i64 r] 23) = w0 at hP HG ⊢
  refine (KN.out _).mono ?_
  rintro e w1 ⟨rfl, g1⟩
  have P1 := (g1.block _ (blk_lt hP) (by simp)).trans hP
  have hlt := blk_lt P1
  have HG1 := Lib.hid (gb_trans HG.out (gb_trans g1 (World.grownBy_alloc w1 (.cells #[.int .i64 w, .int .i64 h, .int .i64 B, .int .i64 D] 25) none)))
  have P2 : (w1.alloc (.cells #[.int .i64 w, .int .i64 h, .int .i64 B, .int .i64 D] 25)).heap[W.heap.size]? = some (.cells #[.int .i64 f, .int .i64 w, .int .i64 h, .int .i64 b, .int .i64 c, .int .i64 r] 23 (0, 0)) := blk_al P1 _
  have B2 : (w1.alloc (.cells #[.int .i64 w, .int .i64 h, .int .i64 B, .int .i64 D] 25)).heap[w1.heap.size]? = some (.cells #[.int .i64 w, .int .i64 h, .int .i64 B, .int .i64 D] 25 (0, 0)) := blk_at
  clear hP P1 g1 KN HG
  go_upto_region 2 with fail
  generalize w1.alloc (.cells #[.int .i64 w, .int .i64 h, .int .i64 B, .int .i64 D] 25) = w2 at P2 B2 HG1 ⊢
  obtain ⟨bb, hbb⟩ : ∃ bb, w1.heap.size = bb := ⟨_, rfl⟩
  rw [hbb] at B2 hlt ⊢
  clear hbb
  have p1 := blk_cell P2 1
  have p2 := blk_cell P2 2
  have p4 := blk_cell P2 4
  have p5 := blk_cell P2 5
  have q0 := blk_cell B2 0
  have q1 := blk_cell B2 1
  have q2 := blk_cell B2 2
  have q3 := blk_cell B2 3
  simp only [List.getElem?_toArray, List.getElem?_cons_succ, List.getElem?_cons_zero] at p1 p2 p4 p5 q0 q1 q2 q3
  have HP2 := Lib.hid P2
  have HB2 := Lib.hid B2
  clear P2 B2
  go_upto_region 5 with fail
  go_region_held3 (fun w' => w'.cell? ⟨W.heap.size, 1, none⟩ = some (.int .i64 w) ∧ w'.cell? ⟨W.heap.size, 2, none⟩ = some (.int .i64 h) ∧ w'.cell? ⟨W.heap.size, 4, none⟩ = some (.int .i64 c) ∧ w'.cell? ⟨W.heap.size, 5, none⟩ = some (.int .i64 r) ∧ w'.cell? ⟨bb, 0, none⟩ = some (.int .i64 w) ∧ w'.cell? ⟨bb, 1, none⟩ = some (.int .i64 h) ∧ w'.cell? ⟨bb, 2, none⟩ = some (.int .i64 B) ∧ w'.cell? ⟨bb, 3, none⟩ = some (.int .i64 D)) (go_keep)
    (first
      | (go_at_call 7; refine (KR.out _).mono ?_; rintro e w3 ⟨rfl, g3⟩; have HG3 := Lib.hid (show W.grownBy w3 none from by first | exact gb_trans HG1.out g3 | exact gb_trans (gb_trans HG1.out (gb_drew _ _)) g3); have P3 := (Eq.trans (g3.block _ (blk_lt HP2.out) (by simp)) HP2.out); have B3 := (Eq.trans (g3.block _ (blk_lt HB2.out) (by simp)) HB2.out); have u1 := blk_cell P3 1; have u2 := blk_cell P3 2; have u4 := blk_cell P3 4; have u5 := blk_cell P3 5; have v0 := blk_cell B3 0; have v1 := blk_cell B3 1; have v2 := blk_cell B3 2; have v3 := blk_cell B3 3; simp only [List.getElem?_toArray, List.getElem?_cons_succ, List.getElem?_cons_zero] at u1 u2 u4 u5 v0 v1 v2 v3)
      | (go_at_call 6; refine (KA.out _ HG3.out).mono ?_; rintro e w4 ⟨rfl, g4⟩; have HG4 := Lib.hid (gb_trans HG3.out g4); have P4 := (Eq.trans (g4.block _ (blk_lt P3) (by simp)) P3); have B4 := (Eq.trans (g4.block _ (blk_lt B3) (by simp)) B3); have a1 := blk_cell P4 1; have a2 := blk_cell P4 2; have a4 := blk_cell P4 4; have a5 := blk_cell P4 5; have c0 := blk_cell B4 0; have c1 := blk_cell B4 1; have c2 := blk_cell B4 2; have c3 := blk_cell B4 3; simp only [List.getElem?_toArray, List.getElem?_cons_succ, List.getElem?_cons_zero] at a1 a2 a4 a5 c0 c1 c2 c3))
  all_goals
    go_wp2
    go_ret
    exact ⟨rfl, HG4.out⟩

theorem num_any (f w h b c r n : Int) (W : World) (HT : OrdT W) : Calls Tryz.prog 3 #[planV f w h b c r, .int .i64 n] W fun e w' => e = .returned (.bool true) ∧ W.grownBy w' none := by
  by_cases G : GdP w h c r n
  · exact num_ok f w h b c r n G W HT
  · exact num_bad f w h b c r n G W HT

end Go.Proofs.YtfhcefglefkakaaGreatDoor.Ne
