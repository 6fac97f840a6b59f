/- Layer 31: the law of numbers, where a plan's numbers are wrong (written by wip/gen/ne6.py). -/
import Derived.Test.YtfhcefglefkakaaGreatDoorNe5
namespace Go.Proofs.YtfhcefglefkakaaGreatDoor.Ne
open Go.ChangeShapes Go.WideShapes Go.ChangeAt Go.RowKit
open Go.Proofs.YtfhcefglefkakaaGreatDoor.Le Go.Proofs.YtfhcefglefkakaaGreatDoor.Tk Go.Proofs.YtfhcefglefkakaaGreatDoor.Sr Go.Proofs.YtfhcefglefkakaaGreatDoor.Sn
set_option linter.unusedVariables false

set_option maxRecDepth 100000 in
set_option maxHeartbeats 8000000 in
theorem num_bad (f w h b c r n : Int) (G : ¬ GdP w h c r n) (W : World) (HT : OrdT W) : Calls Tryz.prog 3 #[planV f w h b c r, .int .i64 n] W fun e w' => e = .returned (.bool true) ∧ W.grownBy w' none := by
  have KN := fun u => need_bad f w h b c r n G u
  unfold planV budV at KN
  have KN := Lib.hid KN
  have hP : (W.alloc (.cells #[.int .i64 f, .int .i64 w, .int .i64 h, .int .i64 b, .int .i64 c, .int .i64 r] 23)).heap[W.heap.size]? = some (.cells #[.int .i64 f, .int .i64 w, .int .i64 h, .int .i64 b, .int .i64 c, .int .i64 r] 23 (0, 0)) := blk_at
  have KA := Lib.hid (fun u (g : W.grownBy u none) => awake_calls u (HT.grown g (fun b e => by cases e)))
  have HG := Lib.hid (World.grownBy_alloc W (.cells #[.int .i64 f, .int .i64 w, .int .i64 h, .int .i64 b, .int .i64 c, .int .i64 r] 23) none)
  unfold planV
  clear HT
  cases e0 : decide ((w : Int) < 1) with
  | true =>
    clear G
    go_enter Tryz.func3, Tryz.ntmps3
    go_wp2_with fail
    generalize W.alloc (.cells #[.int .i64 f, .int .i64 w, .int .i64 h, .int .i64 b, .int .i64 c, .int .i64 r] 23) = w0 at hP HG ⊢
    refine (KN.out _).mono ?_
    rintro e w1 ⟨rfl, g1⟩
    have P1 := (g1.block _ (blk_lt hP) (by simp)).trans hP
    have hlt := blk_lt P1
    have HG1 := Lib.hid (gb_trans HG.out (gb_trans g1 (World.grownBy_alloc w1 (.cells #[.int .i64 0, .int .i64 0, .int .i64 0, .int .i64 0] 25) none)))
    have P2 : (w1.alloc (.cells #[.int .i64 0, .int .i64 0, .int .i64 0, .int .i64 0] 25)).heap[W.heap.size]? = some (.cells #[.int .i64 f, .int .i64 w, .int .i64 h, .int .i64 b, .int .i64 c, .int .i64 r] 23 (0, 0)) := blk_al P1 _
    have B2 : (w1.alloc (.cells #[.int .i64 0, .int .i64 0, .int .i64 0, .int .i64 0] 25)).heap[w1.heap.size]? = some (.cells #[.int .i64 0, .int .i64 0, .int .i64 0, .int .i64 0] 25 (0, 0)) := blk_at
    clear hP P1 g1 KN HG
    go_upto_region 2 with fail
    generalize w1.alloc (.cells #[.int .i64 0, .int .i64 0, .int .i64 0, .int .i64 0] 25) = w2 at P2 B2 HG1 ⊢
    obtain ⟨bb, hbb⟩ : ∃ bb, w1.heap.size = bb := ⟨_, rfl⟩
    rw [hbb] at B2 hlt ⊢
    clear hbb
    have p1 := blk_cell P2 1
    have p2 := blk_cell P2 2
    have p4 := blk_cell P2 4
    have p5 := blk_cell P2 5
    have q0 := blk_cell B2 0
    have q1 := blk_cell B2 1
    have q2 := blk_cell B2 2
    have q3 := blk_cell B2 3
    simp only [List.getElem?_toArray, List.getElem?_cons_succ, List.getElem?_cons_zero] at p1 p2 p4 p5 q0 q1 q2 q3
    clear P2 B2
    go_wp2_with fail
    refine (KA.out _ HG1.out).mono ?_
    rintro e w3 ⟨rfl, g3⟩
    go_wp2
    go_ret
    exact ⟨rfl, gb_trans HG1.out g3⟩
  | false =>
    cases e1 : decide ((16384 : Int) < w) with
    | true =>
      clear G
      go_enter Tryz.func3, Tryz.ntmps3
      go_wp2_with fail
      generalize W.alloc (.cells #[.int .i64 f, .int .i64 w, .int .i64 h, .int .i64 b, .int .i64 c, .int .i64 r] 23) = w0 at hP HG ⊢
      refine (KN.out _).mono ?_
      rintro e w1 ⟨rfl, g1⟩
      have P1 := (g1.block _ (blk_lt hP) (by simp)).trans hP
      have hlt := blk_lt P1
      have HG1 := Lib.hid (gb_trans HG.out (gb_trans g1 (World.grownBy_alloc w1 (.cells #[.int .i64 0, .int .i64 0, .int .i64 0, .int .i64 0] 25) none)))
      have P2 : (w1.alloc (.cells #[.int .i64 0, .int .i64 0, .int .i64 0, .int .i64 0] 25)).heap[W.heap.size]? = some (.cells #[.int .i64 f, .int .i64 w, .int .i64 h, .int .i64 b, .int .i64 c, .int .i64 r] 23 (0, 0)) := blk_al P1 _
      have B2 : (w1.alloc (.cells #[.int .i64 0, .int .i64 0, .int .i64 0, .int .i64 0] 25)).heap[w1.heap.size]? = some (.cells #[.int .i64 0, .int .i64 0, .int .i64 0, .int .i64 0] 25 (0, 0)) := blk_at
      clear hP P1 g1 KN HG
      go_upto_region 2 with fail
      generalize w1.alloc (.cells #[.int .i64 0, .int .i64 0, .int .i64 0, .int .i64 0] 25) = w2 at P2 B2 HG1 ⊢
      obtain ⟨bb, hbb⟩ : ∃ bb, w1.heap.size = bb := ⟨_, rfl⟩
      rw [hbb] at B2 hlt ⊢
      clear hbb
      have p1 := blk_cell P2 1
      have p2 := blk_cell P2 2
      have p4 := blk_cell P2 4
      have p5 := blk_cell P2 5
      have q0 := blk_cell B2 0
      have q1 := blk_cell B2 1
      have q2 := blk_cell B2 2
      have q3 := blk_cell B2 3
      simp only [List.getElem?_toArray, List.getElem?_cons_succ, List.getElem?_cons_zero] at p1 p2 p4 p5 q0 q1 q2 q3
      clear P2 B2
      go_wp2_with fail
      refine (KA.out _ HG1.out).mono ?_
      rintro e w3 ⟨rfl, g3⟩
      go_wp2
      go_ret
      exact ⟨rfl, gb_trans HG1.out g3⟩
    | false =>
      cases e2 : decide ((h : Int) < 1) with
      | true =>
        clear G
        go_enter Tryz.func3, Tryz.ntmps3
        go_wp2_with fail
        generalize W.alloc (.cells #[.int .i64 f, .int .i64 w, .int .i64 h, .int .i64 b, .int .i64 c, .int .i64 r] 23) = w0 at hP HG ⊢
        refine (KN.out _).mono ?_
        rintro e w1 ⟨rfl, g1⟩
        have P1 := (g1.block _ (blk_lt hP) (by simp)).trans hP
        have hlt := blk_lt P1
        have HG1 := Lib.hid (gb_trans HG.out (gb_trans g1 (World.grownBy_alloc w1 (.cells #[.int .i64 0, .int .i64 0, .int .i64 0, .int .i64 0] 25) none)))
        have P2 : (w1.alloc (.cells #[.int .i64 0, .int .i64 0, .int .i64 0, .int .i64 0] 25)).heap[W.heap.size]? = some (.cells #[.int .i64 f, .int .i64 w, .int .i64 h, .int .i64 b, .int .i64 c, .int .i64 r] 23 (0, 0)) := blk_al P1 _
        have B2 : (w1.alloc (.cells #[.int .i64 0, .int .i64 0, .int .i64 0, .int .i64 0] 25)).heap[w1.heap.size]? = some (.cells #[.int .i64 0, .int .i64 0, .int .i64 0, .int .i64 0] 25 (0, 0)) := blk_at
        clear hP P1 g1 KN HG
        go_upto_region 2 with fail
        generalize w1.alloc (.cells #[.int .i64 0, .int .i64 0, .int .i64 0, .int .i64 0] 25) = w2 at P2 B2 HG1 ⊢
        obtain ⟨bb, hbb⟩ : ∃ bb, w1.heap.size = bb := ⟨_, rfl⟩
        rw [hbb] at B2 hlt ⊢
        clear hbb
        have p1 := blk_cell P2 1
        have p2 := blk_cell P2 2
        have p4 := blk_cell P2 4
        have p5 := blk_cell P2 5
        have q0 := blk_cell B2 0
        have q1 := blk_cell B2 1
        have q2 := blk_cell B2 2
        have q3 := blk_cell B2 3
        simp only [List.getElem?_toArray, List.getElem?_cons_succ, List.getElem?_cons_zero] at p1 p2 p4 p5 q0 q1 q2 q3
        clear P2 B2
        go_wp2_with fail
        refine (KA.out _ HG1.out).mono ?_
        rintro e w3 ⟨rfl, g3⟩
        go_wp2
        go_ret
        exact ⟨rfl, gb_trans HG1.out g3⟩
      | false =>
        cases e3 : decide ((16384 : Int) < h) with
        | true =>
          clear G
          go_enter Tryz.func3, Tryz.ntmps3
          go_wp2_with fail
          generalize W.alloc (.cells #[.int .i64 f, .int .i64 w, .int .i64 h, .int .i64 b, .int .i64 c, .int .i64 r] 23) = w0 at hP HG ⊢
          refine (KN.out _).mono ?_
          rintro e w1 ⟨rfl, g1⟩
          have P1 := (g1.block _ (blk_lt hP) (by simp)).trans hP
          have hlt := blk_lt P1
          have HG1 := Lib.hid (gb_trans HG.out (gb_trans g1 (World.grownBy_alloc w1 (.cells #[.int .i64 0, .int .i64 0, .int .i64 0, .int .i64 0] 25) none)))
          have P2 : (w1.alloc (.cells #[.int .i64 0, .int .i64 0, .int .i64 0, .int .i64 0] 25)).heap[W.heap.size]? = some (.cells #[.int .i64 f, .int .i64 w, .int .i64 h, .int .i64 b, .int .i64 c, .int .i64 r] 23 (0, 0)) := blk_al P1 _
          have B2 : (w1.alloc (.cells #[.int .i64 0, .int .i64 0, .int .i64 0, .int .i64 0] 25)).heap[w1.heap.size]? = some (.cells #[.int .i64 0, .int .i64 0, .int .i64 0, .int .i64 0] 25 (0, 0)) := blk_at
          clear hP P1 g1 KN HG
          go_upto_region 2 with fail
          generalize w1.alloc (.cells #[.int .i64 0, .int .i64 0, .int .i64 0, .int .i64 0] 25) = w2 at P2 B2 HG1 ⊢
          obtain ⟨bb, hbb⟩ : ∃ bb, w1.heap.size = bb := ⟨_, rfl⟩
          rw [hbb] at B2 hlt ⊢
          clear hbb
          have p1 := blk_cell P2 1
          have p2 := blk_cell P2 2
          have p4 := blk_cell P2 4
          have p5 := blk_cell P2 5
          have q0 := blk_cell B2 0
          have q1 := blk_cell B2 1
          have q2 := blk_cell B2 2
          have q3 := blk_cell B2 3
          simp only [List.getElem?_toArray, List.getElem?_cons_succ, List.getElem?_cons_zero] at p1 p2 p4 p5 q0 q1 q2 q3
          clear P2 B2
          go_wp2_with fail
          refine (KA.out _ HG1.out).mono ?_
          rintro e w3 ⟨rfl, g3⟩
          go_wp2
          go_ret
          exact ⟨rfl, gb_trans HG1.out g3⟩
        | false =>
          cases e4 : decide ((c : Int) < 0) with
          | true =>
            clear G
            go_enter Tryz.func3, Tryz.ntmps3
            go_wp2_with fail
            generalize W.alloc (.cells #[.int .i64 f, .int .i64 w, .int .i64 h, .int .i64 b, .int .i64 c, .int .i64 r] 23) = w0 at hP HG ⊢
            refine (KN.out _).mono ?_
            rintro e w1 ⟨rfl, g1⟩
            have P1 := (g1.block _ (blk_lt hP) (by simp)).trans hP
            have hlt := blk_lt P1
            have HG1 := Lib.hid (gb_trans HG.out (gb_trans g1 (World.grownBy_alloc w1 (.cells #[.int .i64 0, .int .i64 0, .int .i64 0, .int .i64 0] 25) none)))
            have P2 : (w1.alloc (.cells #[.int .i64 0, .int .i64 0, .int .i64 0, .int .i64 0] 25)).heap[W.heap.size]? = some (.cells #[.int .i64 f, .int .i64 w, .int .i64 h, .int .i64 b, .int .i64 c, .int .i64 r] 23 (0, 0)) := blk_al P1 _
            have B2 : (w1.alloc (.cells #[.int .i64 0, .int .i64 0, .int .i64 0, .int .i64 0] 25)).heap[w1.heap.size]? = some (.cells #[.int .i64 0, .int .i64 0, .int .i64 0, .int .i64 0] 25 (0, 0)) := blk_at
            clear hP P1 g1 KN HG
            go_upto_region 2 with fail
            generalize w1.alloc (.cells #[.int .i64 0, .int .i64 0, .int .i64 0, .int .i64 0] 25) = w2 at P2 B2 HG1 ⊢
            obtain ⟨bb, hbb⟩ : ∃ bb, w1.heap.size = bb := ⟨_, rfl⟩
            rw [hbb] at B2 hlt ⊢
            clear hbb
            have p1 := blk_cell P2 1
            have p2 := blk_cell P2 2
            have p4 := blk_cell P2 4
            have p5 := blk_cell P2 5
            have q0 := blk_cell B2 0
            have q1 := blk_cell B2 1
            have q2 := blk_cell B2 2
            have q3 := blk_cell B2 3
            simp only [List.getElem?_toArray, List.getElem?_cons_succ, List.getElem?_cons_zero] at p1 p2 p4 p5 q0 q1 q2 q3
            clear P2 B2
            go_wp2_with fail
            refine (KA.out _ HG1.out).mono ?_
            rintro e w3 ⟨rfl, g3⟩
            go_wp2
            go_ret
            exact ⟨rfl, gb_trans HG1.out g3⟩
          | false =>
            cases e5 : decide ((1099511627776 : Int) < c) with
            | true =>
              clear G
              go_enter Tryz.func3, Tryz.ntmps3
              go_wp2_with fail
              generalize W.alloc (.cells #[.int .i64 f, .int .i64 w, .int .i64 h, .int .i64 b, .int .i64 c, .int .i64 r] 23) = w0 at hP HG ⊢
              refine (KN.out _).mono ?_
              rintro e w1 ⟨rfl, g1⟩
              have P1 := (g1.block _ (blk_lt hP) (by simp)).trans hP
              have hlt := blk_lt P1
              have HG1 := Lib.hid (gb_trans HG.out (gb_trans g1 (World.grownBy_alloc w1 (.cells #[.int .i64 0, .int .i64 0, .int .i64 0, .int .i64 0] 25) none)))
              have P2 : (w1.alloc (.cells #[.int .i64 0, .int .i64 0, .int .i64 0, .int .i64 0] 25)).heap[W.heap.size]? = some (.cells #[.int .i64 f, .int .i64 w, .int .i64 h, .int .i64 b, .int .i64 c, .int .i64 r] 23 (0, 0)) := blk_al P1 _
              have B2 : (w1.alloc (.cells #[.int .i64 0, .int .i64 0, .int .i64 0, .int .i64 0] 25)).heap[w1.heap.size]? = some (.cells #[.int .i64 0, .int .i64 0, .int .i64 0, .int .i64 0] 25 (0, 0)) := blk_at
              clear hP P1 g1 KN HG
              go_upto_region 2 with fail
              generalize w1.alloc (.cells #[.int .i64 0, .int .i64 0, .int .i64 0, .int .i64 0] 25) = w2 at P2 B2 HG1 ⊢
              obtain ⟨bb, hbb⟩ : ∃ bb, w1.heap.size = bb := ⟨_, rfl⟩
              rw [hbb] at B2 hlt ⊢
              clear hbb
              have p1 := blk_cell P2 1
              have p2 := blk_cell P2 2
              have p4 := blk_cell P2 4
              have p5 := blk_cell P2 5
              have q0 := blk_cell B2 0
              have q1 := blk_cell B2 1
              have q2 := blk_cell B2 2
              have q3 := blk_cell B2 3
              simp only [List.getElem?_toArray, List.getElem?_cons_succ, List.getElem?_cons_zero] at p1 p2 p4 p5 q0 q1 q2 q3
              clear P2 B2
              go_wp2_with fail
              refine (KA.out _ HG1.out).mono ?_
              rintro e w3 ⟨rfl, g3⟩
              go_wp2
              go_ret
              exact ⟨rfl, gb_trans HG1.out g3⟩
            | false =>
              cases e6 : decide ((r : Int) < 0) with
              | true =>
                clear G
                go_enter Tryz.func3, Tryz.ntmps3
                go_wp2_with fail
                generalize W.alloc (.cells #[.int .i64 f, .int .i64 w, .int .i64 h, .int .i64 b, .int .i64 c, .int .i64 r] 23) = w0 at hP HG ⊢
                refine (KN.out _).mono ?_
                rintro e w1 ⟨rfl, g1⟩
                have P1 := (g1.block _ (blk_lt hP) (by simp)).trans hP
                have hlt := blk_lt P1
                have HG1 := Lib.hid (gb_trans HG.out (gb_trans g1 (World.grownBy_alloc w1 (.cells #[.int .i64 0, .int .i64 0, .int .i64 0, .int .i64 0] 25) none)))
                have P2 : (w1.alloc (.cells #[.int .i64 0, .int .i64 0, .int .i64 0, .int .i64 0] 25)).heap[W.heap.size]? = some (.cells #[.int .i64 f, .int .i64 w, .int .i64 h, .int .i64 b, .int .i64 c, .int .i64 r] 23 (0, 0)) := blk_al P1 _
                have B2 : (w1.alloc (.cells #[.int .i64 0, .int .i64 0, .int .i64 0, .int .i64 0] 25)).heap[w1.heap.size]? = some (.cells #[.int .i64 0, .int .i64 0, .int .i64 0, .int .i64 0] 25 (0, 0)) := blk_at
                clear hP P1 g1 KN HG
                go_upto_region 2 with fail
                generalize w1.alloc (.cells #[.int .i64 0, .int .i64 0, .int .i64 0, .int .i64 0] 25) = w2 at P2 B2 HG1 ⊢
                obtain ⟨bb, hbb⟩ : ∃ bb, w1.heap.size = bb := ⟨_, rfl⟩
                rw [hbb] at B2 hlt ⊢
                clear hbb
                have p1 := blk_cell P2 1
                have p2 := blk_cell P2 2
                have p4 := blk_cell P2 4
                have p5 := blk_cell P2 5
                have q0 := blk_cell B2 0
                have q1 := blk_cell B2 1
                have q2 := blk_cell B2 2
                have q3 := blk_cell B2 3
                simp only [List.getElem?_toArray, List.getElem?_cons_succ, List.getElem?_cons_zero] at p1 p2 p4 p5 q0 q1 q2 q3
                clear P2 B2
                go_wp2_with fail
                refine (KA.out _ HG1.out).mono ?_
                rintro e w3 ⟨rfl, g3⟩
                go_wp2
                go_ret
                exact ⟨rfl, gb_trans HG1.out g3⟩
              | false =>
                cases e7 : decide ((1099511627776 : Int) < r) with
                | true =>
                  clear G
                  go_enter Tryz.func3, Tryz.ntmps3
                  go_wp2_with fail
                  generalize W.alloc (.cells #[.int .i64 f, .int .i64 w, .int .i64 h, .int .i64 b, .int .i64 c, .int .i64 r] 23) = w0 at hP HG ⊢
                  refine (KN.out _).mono ?_
                  rintro e w1 ⟨rfl, g1⟩
                  have P1 := (g1.block _ (blk_lt hP) (by simp)).trans hP
                  have hlt := blk_lt P1
                  have HG1 := Lib.hid (gb_trans HG.out (gb_trans g1 (World.grownBy_alloc w1 (.cells #[.int .i64 0, .int .i64 0, .int .i64 0, .int .i64 0] 25) none)))
                  have P2 : (w1.alloc (.cells #[.int .i64 0, .int .i64 0, .int .i64 0, .int .i64 0] 25)).heap[W.heap.size]? = some (.cells #[.int .i64 f, .int .i64 w, .int .i64 h, .int .i64 b, .int .i64 c, .int .i64 r] 23 (0, 0)) := blk_al P1 _
                  have B2 : (w1.alloc (.cells #[.int .i64 0, .int .i64 0, .int .i64 0, .int .i64 0] 25)).heap[w1.heap.size]? = some (.cells #[.int .i64 0, .int .i64 0, .int .i64 0, .int .i64 0] 25 (0, 0)) := blk_at
                  clear hP P1 g1 KN HG
                  go_upto_region 2 with fail
                  generalize w1.alloc (.cells #[.int .i64 0, .int .i64 0, .int .i64 0, .int .i64 0] 25) = w2 at P2 B2 HG1 ⊢
                  obtain ⟨bb, hbb⟩ : ∃ bb, w1.heap.size = bb := ⟨_, rfl⟩
                  rw [hbb] at B2 hlt ⊢
                  clear hbb
                  have p1 := blk_cell P2 1
                  have p2 := blk_cell P2 2
                  have p4 := blk_cell P2 4
                  have p5 := blk_cell P2 5
                  have q0 := blk_cell B2 0
                  have q1 := blk_cell B2 1
                  have q2 := blk_cell B2 2
                  have q3 := blk_cell B2 3
                  simp only [List.getElem?_toArray, List.getElem?_cons_succ, List.getElem?_cons_zero] at p1 p2 p4 p5 q0 q1 q2 q3
                  clear P2 B2
                  go_wp2_with fail
                  refine (KA.out _ HG1.out).mono ?_
                  rintro e w3 ⟨rfl, g3⟩
                  go_wp2
                  go_ret
                  exact ⟨rfl, gb_trans HG1.out g3⟩
                | false =>
                  cases e8 : decide ((n : Int) < 0) with
                  | true =>
                    clear G
                    go_enter Tryz.func3, Tryz.ntmps3
                    go_wp2_with fail
                    generalize W.alloc (.cells #[.int .i64 f, .int .i64 w, .int .i64 h, .int .i64 b, .int .i64 c, .int .i64 r] 23) = w0 at hP HG ⊢
                    refine (KN.out _).mono ?_
                    rintro e w1 ⟨rfl, g1⟩
                    have P1 := (g1.block _ (blk_lt hP) (by simp)).trans hP
                    have hlt := blk_lt P1
                    have HG1 := Lib.hid (gb_trans HG.out (gb_trans g1 (World.grownBy_alloc w1 (.cells #[.int .i64 0, .int .i64 0, .int .i64 0, .int .i64 0] 25) none)))
                    have P2 : (w1.alloc (.cells #[.int .i64 0, .int .i64 0, .int .i64 0, .int .i64 0] 25)).heap[W.heap.size]? = some (.cells #[.int .i64 f, .int .i64 w, .int .i64 h, .int .i64 b, .int .i64 c, .int .i64 r] 23 (0, 0)) := blk_al P1 _
                    have B2 : (w1.alloc (.cells #[.int .i64 0, .int .i64 0, .int .i64 0, .int .i64 0] 25)).heap[w1.heap.size]? = some (.cells #[.int .i64 0, .int .i64 0, .int .i64 0, .int .i64 0] 25 (0, 0)) := blk_at
                    clear hP P1 g1 KN HG
                    go_upto_region 2 with fail
                    generalize w1.alloc (.cells #[.int .i64 0, .int .i64 0, .int .i64 0, .int .i64 0] 25) = w2 at P2 B2 HG1 ⊢
                    obtain ⟨bb, hbb⟩ : ∃ bb, w1.heap.size = bb := ⟨_, rfl⟩
                    rw [hbb] at B2 hlt ⊢
                    clear hbb
                    have p1 := blk_cell P2 1
                    have p2 := blk_cell P2 2
                    have p4 := blk_cell P2 4
                    have p5 := blk_cell P2 5
                    have q0 := blk_cell B2 0
                    have q1 := blk_cell B2 1
                    have q2 := blk_cell B2 2
                    have q3 := blk_cell B2 3
                    simp only [List.getElem?_toArray, List.getElem?_cons_succ, List.getElem?_cons_zero] at p1 p2 p4 p5 q0 q1 q2 q3
                    clear P2 B2
                    go_wp2_with fail
                    refine (KA.out _ HG1.out).mono ?_
                    rintro e w3 ⟨rfl, g3⟩
                    go_wp2
                    go_ret
                    exact ⟨rfl, gb_trans HG1.out g3⟩
                  | false =>
                    cases e9 : decide ((1099511627776 : Int) < n) with
                    | true =>
                      clear G
                      go_enter Tryz.func3, Tryz.ntmps3
                      go_wp2_with fail
                      generalize W.alloc (.cells #[.int .i64 f, .int .i64 w, .int .i64 h, .int .i64 b, .int .i64 c, .int .i64 r] 23) = w0 at hP HG ⊢
                      refine (KN.out _).mono ?_
                      rintro e w1 ⟨rfl, g1⟩
                      have P1 := (g1.block _ (blk_lt hP) (by simp)).trans hP
                      have hlt := blk_lt P1
                      have HG1 := Lib.hid (gb_trans HG.out (gb_trans g1 (World.grownBy_alloc w1 (.cells #[.int .i64 0, .int .i64 0, .int .i64 0, .int .i64 0] 25) none)))
                      have P2 : (w1.alloc (.cells #[.int .i64 0, .int .i64 0, .int .i64 0, .int .i64 0] 25)).heap[W.heap.size]? = some (.cells #[.int .i64 f, .int .i64 w, .int .i64 h, .int .i64 b, .int .i64 c, .int .i64 r] 23 (0, 0)) := blk_al P1 _
                      have B2 : (w1.alloc (.cells #[.int .i64 0, .int .i64 0, .int .i64 0, .int .i64 0] 25)).heap[w1.heap.size]? = some (.cells #[.int .i64 0, .int .i64 0, .int .i64 0, .int .i64 0] 25 (0, 0)) := blk_at
                      clear hP P1 g1 KN HG
                      go_upto_region 2 with fail
                      generalize w1.alloc (.cells #[.int .i64 0, .int .i64 0, .int .i64 0, .int .i64 0] 25) = w2 at P2 B2 HG1 ⊢
                      obtain ⟨bb, hbb⟩ : ∃ bb, w1.heap.size = bb := ⟨_, rfl⟩
                      rw [hbb] at B2 hlt ⊢
                      clear hbb
                      have p1 := blk_cell P2 1
                      have p2 := blk_cell P2 2
                      have p4 := blk_cell P2 4
                      have p5 := blk_cell P2 5
                      have q0 := blk_cell B2 0
                      have q1 := blk_cell B2 1
                      have q2 := blk_cell B2 2
                      have q3 := blk_cell B2 3
                      simp only [List.getElem?_toArray, List.getElem?_cons_succ, List.getElem?_cons_zero] at p1 p2 p4 p5 q0 q1 q2 q3
                      clear P2 B2
                      go_wp2_with fail
                      refine (KA.out _ HG1.out).mono ?_
                      rintro e w3 ⟨rfl, g3⟩
                      go_wp2
                      go_ret
                      exact ⟨rfl, gb_trans HG1.out g3⟩
                    | false =>
                      exfalso
                      apply G
                      have g0 := of_decide_eq_false e0
                      have g1 := of_decide_eq_false e1
                      have g2 := of_decide_eq_false e2
                      have g3 := of_decide_eq_false e3
                      have g4 := of_decide_eq_false e4
                      have g5 := of_decide_eq_false e5
                      have g6 := of_decide_eq_false e6
                      have g7 := of_decide_eq_false e7
                      have g8 := of_decide_eq_false e8
                      have g9 := of_decide_eq_false e9
                      unfold GdP
                      omega

end Go.Proofs.YtfhcefglefkakaaGreatDoor.Ne
