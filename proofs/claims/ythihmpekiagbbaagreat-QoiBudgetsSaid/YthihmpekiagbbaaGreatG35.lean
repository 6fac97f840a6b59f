/- Texts of one kind, one behind the other: Ql1. -/
import Derived.BigRegion
import Derived.Deep.RegionHeld3
import Derived.Test.YthihmpekiagbbaaGreatG17
import Derived.Test.YthihmpekiagbbaaGreatG19
import Derived.Test.YthihmpekiagbbaaGreatG34
/- The law of layer 26: any budget, walked (written by wip/gen/bdg13.py). -/
namespace Go.Proofs.YthihmpekiagbbaaGreat.Qo
open Go.ChangeShapes Go.WideShapes Go.ChangeAt Go.RowKit
open Go.Proofs.YthihmpekiagbbaaGreat.Le Go.Proofs.YthihmpekiagbbaaGreat.Tk Go.Proofs.YthihmpekiagbbaaGreat.Sr Go.Proofs.YthihmpekiagbbaaGreat.Sh Go.Proofs.YthihmpekiagbbaaGreat.Qw
open Go.Proofs.YthihmpekiagbbaaGreat.Ra hiding bt
set_option linter.unusedVariables false

theorem by_of {g : Nat} {S : ByteArray} {w : World} (h : w.heap[g]? = some (.cells (Bu.bys S) 5 (0, 0))) : Lib.Bytes w g 0 S := fun i hi => by
  rw [Nat.zero_add]
  exact (blk_cell h i).trans (Bu.bys_at S i hi)
theorem bx_of {g : Nat} {S : ByteArray} {w : World} (h : w.heap[g]? = some (.cells (Bu.bys S) 5 (0, 0))) : Bx (some ⟨g, 0, none⟩) S w := .inr ⟨g, 0, rfl, by_of h⟩

set_option maxRecDepth 100000 in
set_option maxHeartbeats 8000000 in
theorem buds_at (KAW0 : ∀ u : World, Calls Tryz.prog 7 #[] u fun e w' => e = .returned (.bool true) ∧ u.grownBy w' none) (s : ByteArray) (v : TV) (HD : TD s v) (KS0 : ∀ u, Calls Tryz.prog 8 #[.string s] u fun e w' => e = .returned (.tuple #[.int .i64 v.w, .int .i64 v.h]) ∧ u.grownBy w' none)
    (hf : v.f ≤ 3) (hN : v.N ≤ 3 * (v.w * v.h) + 9) (hlen : s.size ≤ 900)
    (g0 g1 g2 g3 : Int) (W : World) (h0 : g0 ≤ 9223372036854775807) (h1 : g1 ≤ 9223372036854775807) (h3 : g3 ≤ 9223372036854775807) :
    Calls Tryz.prog 4 #[.string s, .agg #[.int .i64 g0, .int .i64 g1, .int .i64 g2, .int .i64 g3]] W fun e w' => e = .returned (.bool true) ∧ W.grownBy w' none := by
  have KAW := Lib.hid KAW0
  have dlen : decide ((900 : Int) < (s.size : Int)) = false := decide_eq_false (by omega)
  obtain ⟨gm, hgm⟩ : ∃ gm, min g2 262144 = gm := ⟨_, rfl⟩
  have KR1 := fun u => run15_calls s v HD g0 g1 gm g3 u (by omega) h0 h1 (by omega) h3
  have KR2 := fun u => run15_calls s v HD 16384 16384 262144 1048576 u (by omega) (by decide) (by decide) (by decide) (by decide)
  have KW := Lib.hid (fun u => wide_calls u)
  have KS := Lib.hid KS0
  have KR1 := Lib.hid KR1
  have KR2 := Lib.hid KR2
  have HV := Lib.hid (And.intro hf hN)
  have HLEN := Lib.hid hlen
  clear hf hN h0 h1 h3 hlen KS0 HD
  by_cases h_w : 60 < v.w
  · have d_w : decide ((60 : Int) < (v.w : Int)) = true := decide_eq_true (by omega)
    go_enter Tryz.func4, Tryz.ntmps4
    go_wp2_with fail
    skip
    have HG0 := Lib.hid (World.grownBy_alloc W (.cells #[.int .i64 g0, .int .i64 g1, .int .i64 gm, .int .i64 g3] 34) none)
    have HB0 := Lib.hid (blk_at (w := W) (o := (.cells #[.int .i64 g0, .int .i64 g1, .int .i64 gm, .int .i64 g3] 34)))
    generalize W.alloc (.cells #[.int .i64 g0, .int .i64 g1, .int .i64 gm, .int .i64 g3] 34) = w0 at HG0 HB0 ⊢
    refine (KS.out _).mono ?_
    rintro e w1 ⟨rfl, g1⟩
    have HG1 := Lib.hid (gb_trans HG0.out g1)
    have HB1 := Lib.hid ((g1.block _ (blk_lt HB0.out) (by simp)).trans HB0.out)
    clear g1 HB0
    go_wp2_with fail
    refine (KAW.out _).mono ?_
    rintro e w9 ⟨rfl, g9⟩
    have G9 := Lib.hid (gb_trans HG1.out g9)
    clear g9
    go_wp2
    go_ret
    exact ⟨rfl, G9.out⟩
  · have d_w : decide ((60 : Int) < (v.w : Int)) = false := decide_eq_false (by omega)
    by_cases h_h : 60 < v.h
    · have d_h : decide ((60 : Int) < (v.h : Int)) = true := decide_eq_true (by omega)
      go_enter Tryz.func4, Tryz.ntmps4
      go_wp2_with fail
      skip
      have HG0 := Lib.hid (World.grownBy_alloc W (.cells #[.int .i64 g0, .int .i64 g1, .int .i64 gm, .int .i64 g3] 34) none)
      have HB0 := Lib.hid (blk_at (w := W) (o := (.cells #[.int .i64 g0, .int .i64 g1, .int .i64 gm, .int .i64 g3] 34)))
      generalize W.alloc (.cells #[.int .i64 g0, .int .i64 g1, .int .i64 gm, .int .i64 g3] 34) = w0 at HG0 HB0 ⊢
      refine (KS.out _).mono ?_
      rintro e w1 ⟨rfl, g1⟩
      have HG1 := Lib.hid (gb_trans HG0.out g1)
      have HB1 := Lib.hid ((g1.block _ (blk_lt HB0.out) (by simp)).trans HB0.out)
      clear g1 HB0
      go_wp2_with fail
      refine (KAW.out _).mono ?_
      rintro e w9 ⟨rfl, g9⟩
      have G9 := Lib.hid (gb_trans HG1.out g9)
      clear g9
      go_wp2
      go_ret
      exact ⟨rfl, G9.out⟩
    · have d_h : decide ((60 : Int) < (v.h : Int)) = false := decide_eq_false (by omega)
      have HWH := Lib.hid (And.intro h_w h_h)
      clear h_w h_h
      go_enter Tryz.func4, Tryz.ntmps4
      go_wp2_with fail
      skip
      have HG0 := Lib.hid (World.grownBy_alloc W (.cells #[.int .i64 g0, .int .i64 g1, .int .i64 gm, .int .i64 g3] 34) none)
      have HB0 := Lib.hid (blk_at (w := W) (o := (.cells #[.int .i64 g0, .int .i64 g1, .int .i64 gm, .int .i64 g3] 34)))
      generalize W.alloc (.cells #[.int .i64 g0, .int .i64 g1, .int .i64 gm, .int .i64 g3] 34) = w0 at HG0 HB0 ⊢
      refine (KS.out _).mono ?_
      rintro e w1 ⟨rfl, g1⟩
      have HG1 := Lib.hid (gb_trans HG0.out g1)
      have HB1 := Lib.hid ((g1.block _ (blk_lt HB0.out) (by simp)).trans HB0.out)
      clear g1 HB0
      have BB1 := HB1.out
      have b10 := blk_cell BB1 0
      have b11 := blk_cell BB1 1
      have b12 := blk_cell BB1 2
      have b13 := blk_cell BB1 3
      simp only [List.getElem?_toArray, List.getElem?_cons_succ, List.getElem?_cons_zero] at b10 b11 b12 b13
      go_wp2_with fail
      refine (KR1.out w1).mono ?_
      rintro e w3 ⟨img, fault, l, rfl, y, L, yok, lim, gg3, ⟨z0, ⟨g, rfl, hb, hsA⟩, rfl, hby, hr, hw, hh⟩ | ⟨z0, rfl, rfl, hr, hby⟩ | ⟨hno, rfl, ⟨q, hq, rfl⟩, hr, hby⟩⟩
      · simp only [okT]
        have gg4 := gb_trans (World.grownBy_alloc w3 (.cells #[.int .i64 v.w, .int .i64 v.h, .slice (some ⟨g, 0, none⟩) (4 * (v.w * v.h)) (4 * (v.w * v.h))] 27) none) (World.grownBy_alloc _ (.cells #[.int .i64 0, .int .i64 0, .int .i64 0] 29) none)
        have I4 : ((w3.alloc (.cells #[.int .i64 v.w, .int .i64 v.h, .slice (some ⟨g, 0, none⟩) (4 * (v.w * v.h)) (4 * (v.w * v.h))] 27)).alloc (.cells #[.int .i64 0, .int .i64 0, .int .i64 0] 29)).heap[w3.heap.size]? = some (.cells #[.int .i64 v.w, .int .i64 v.h, .slice (some ⟨g, 0, none⟩) (4 * (v.w * v.h)) (4 * (v.w * v.h))] 27 (0, 0)) := blk_al blk_at _
        have F4 : Fl (w3.heap.size + 1) 0 0 0 ((w3.alloc (.cells #[.int .i64 v.w, .int .i64 v.h, .slice (some ⟨g, 0, none⟩) (4 * (v.w * v.h)) (4 * (v.w * v.h))] 27)).alloc (.cells #[.int .i64 0, .int .i64 0, .int .i64 0] 29)) := by
          rw [← size_alloc w3 (.cells #[.int .i64 v.w, .int .i64 v.h, .slice (some ⟨g, 0, none⟩) (4 * (v.w * v.h)) (4 * (v.w * v.h))] 27)]
          exact blk_at
        have p40 := F4.c0
        have p41 := F4.c1
        have p42 := F4.c2
        have i40 := blk_cell I4 0
        have i41 := blk_cell I4 1
        have i42 := blk_cell I4 2
        simp only [List.getElem?_toArray, List.getElem?_cons_succ, List.getElem?_cons_zero] at i40 i41 i42
        have dlt4 := F4.lt
        have BB4 := ((gb_trans gg3 gg4).block _ (blk_lt HB1.out) (by simp)).trans HB1.out
        have b40 := blk_cell BB4 0
        have b41 := blk_cell BB4 1
        have b42 := blk_cell BB4 2
        have b43 := blk_cell BB4 3
        simp only [List.getElem?_toArray, List.getElem?_cons_succ, List.getElem?_cons_zero] at b40 b41 b42 b43
        have hpk : y.pk ≤ pos gm := by
          have e1 := yok.pb
          rw [lim.b] at e1
          exact e1
        have hst : y.st ≤ pos g3 := by
          have e1 := yok.ts
          rw [lim.s] at e1
          exact e1
        have hp1 : pos gm ≤ max gm 0 := by unfold pos; split <;> omega
        have hp2 : pos g3 ≤ max g3 0 := by unfold pos; split <;> omega
        have dpk : decide (max gm 0 < y.pk) = false := decide_eq_false (by omega)
        have dst : decide (max g3 0 < y.st) = false := decide_eq_false (by omega)
        have KS1 : ∀ u, Led l y.ls u → Calls Tryz.prog 19 #[.pointer (some ⟨l, 0, none⟩)] u fun e w' => e = .returned (.int .i64 y.st) ∧ u = w' := fun u L => steps_calls l y.ls u L
        have KP1 : ∀ u, Led l y.ls u → Calls Tryz.prog 18 #[.pointer (some ⟨l, 0, none⟩)] u fun e w' => e = .returned (.int .i64 y.pk) ∧ u = w' := fun u L => peak_calls l y.ls u L
        have HKS := Lib.hid KS1
        have HKP := Lib.hid KP1
        have HL4 := Lib.hid (L.grown gg4 (by simp))
        have HG4 := Lib.hid (gb_trans (gb_trans HG1.out gg3) gg4)
        have HI4 := Lib.hid I4
        have HF4 := Lib.hid F4
        have HB4 := Lib.hid BB4
        have HX4 := Lib.hid ((bx_of hb).grown gg4)
        have HSA := Lib.hid hsA
        clear hb hsA hw hh
        clear L gg4 I4 F4 BB4 gg3 HB1 HG1 KS1 KP1 yok lim hpk hst hp1 hp2 b10 b11 b12 b13 BB1
        go_wp2_with fail
        generalize ((w3.alloc (.cells #[.int .i64 v.w, .int .i64 v.h, .slice (some ⟨g, 0, none⟩) (4 * (v.w * v.h)) (4 * (v.w * v.h))] 27)).alloc (.cells #[.int .i64 0, .int .i64 0, .int .i64 0] 29)) = w4 at HL4 HG4 HI4 HF4 HB4 p40 p41 p42 i40 i41 i42 dlt4 HX4 b40 b41 b42 b43 ⊢
        go_region_held3 (fun w' => w'.cell? ⟨w3.heap.size, 0, none⟩ = some (.int .i64 v.w) ∧ w'.cell? ⟨w3.heap.size, 1, none⟩ = some (.int .i64 v.h) ∧ w'.cell? ⟨w3.heap.size, 2, none⟩ = some (.slice (some ⟨g, 0, none⟩) (4 * (v.w * v.h)) (4 * (v.w * v.h))) ∧ w'.cell? ⟨w3.heap.size + 1, 0, none⟩ = some (.int .i64 0) ∧ w'.cell? ⟨w3.heap.size + 1, 1, none⟩ = some (.int .i64 0) ∧ w'.cell? ⟨w3.heap.size + 1, 2, none⟩ = some (.int .i64 0) ∧ w'.cell? ⟨W.heap.size, 0, none⟩ = some (.int .i64 g0) ∧ w'.cell? ⟨W.heap.size, 1, none⟩ = some (.int .i64 g1) ∧ w'.cell? ⟨W.heap.size, 2, none⟩ = some (.int .i64 gm) ∧ w'.cell? ⟨W.heap.size, 3, none⟩ = some (.int .i64 g3)) (go_keep)
          (first
            | (go_at_call 18; refine (HKP.out _ HL4.out.drew).mono ?_; rintro e w' ⟨rfl, rfl⟩)
            | (go_at_call 19; refine (HKS.out _ HL4.out.drew).mono ?_; rintro e w' ⟨rfl, rfl⟩))
        all_goals
          go_wp2_with fail
          refine (KW.out _).mono ?_
          rintro e w10 ⟨rfl, g10⟩
          have GA := gb_trans (gb_drew w4 none) g10
          have HGA := Lib.hid GA
          clear g10 GA p40 p41 p42 i40 i41 i42 b40 b41 b42 b43
          go_wp2_with fail
          refine (KR2.out _).mono ?_
          rintro e w5 ⟨img2, fault2, l2, rfl, y2, L2, ok2, lim2, g5, H2⟩
          have e1 : (St.new 16384 16384 262144 1048576).w = 16384 ∧ (St.new 16384 16384 262144 1048576).h = 16384 ∧ (St.new 16384 16384 262144 1048576).b = 262144 ∧ (St.new 16384 16384 262144 1048576).s = 1048576 := ⟨by decide, by decide, by decide, by decide⟩
          rw [e1.1, e1.2.1, e1.2.2.1, e1.2.2.2] at H2
          clear L2 ok2 lim2 e1
          rcases H2 with ⟨z1, ⟨gb, rfl, hb2, _⟩, rfl, _⟩ | ⟨z1, rfl, rfl, _⟩ | ⟨hno, _⟩
          · simp only [okT]
            have gg6 := gb_trans (World.grownBy_alloc w5 (.cells #[.int .i64 v.w, .int .i64 v.h, .slice (some ⟨gb, 0, none⟩) (4 * (v.w * v.h)) (4 * (v.w * v.h))] 27) none) (World.grownBy_alloc _ (.cells #[.int .i64 0, .int .i64 0, .int .i64 0] 29) none)
            have I6 : ((w5.alloc (.cells #[.int .i64 v.w, .int .i64 v.h, .slice (some ⟨gb, 0, none⟩) (4 * (v.w * v.h)) (4 * (v.w * v.h))] 27)).alloc (.cells #[.int .i64 0, .int .i64 0, .int .i64 0] 29)).heap[w5.heap.size]? = some (.cells #[.int .i64 v.w, .int .i64 v.h, .slice (some ⟨gb, 0, none⟩) (4 * (v.w * v.h)) (4 * (v.w * v.h))] 27 (0, 0)) := blk_al blk_at _
            have F6 : Fl (w5.heap.size + 1) 0 0 0 ((w5.alloc (.cells #[.int .i64 v.w, .int .i64 v.h, .slice (some ⟨gb, 0, none⟩) (4 * (v.w * v.h)) (4 * (v.w * v.h))] 27)).alloc (.cells #[.int .i64 0, .int .i64 0, .int .i64 0] 29)) := by
              rw [← size_alloc w5 (.cells #[.int .i64 v.w, .int .i64 v.h, .slice (some ⟨gb, 0, none⟩) (4 * (v.w * v.h)) (4 * (v.w * v.h))] 27)]
              exact blk_at
            have p60 := F6.c0
            have p61 := F6.c1
            have p62 := F6.c2
            have i60 := blk_cell I6 0
            have i61 := blk_cell I6 1
            have i62 := blk_cell I6 2
            simp only [List.getElem?_toArray, List.getElem?_cons_succ, List.getElem?_cons_zero] at i60 i61 i62
            have dlt6 := F6.lt
            have GT := gb_trans (gb_trans HGA.out g5) gg6
            have I5 := (GT.block _ (blk_lt HI4.out) (by simp)).trans HI4.out
            have F5 : Fl (w3.heap.size + 1) 0 0 0 _ := (GT.block _ HF4.out.lt (by simp)).trans HF4.out
            have p50 := F5.c0
            have p51 := F5.c1
            have p52 := F5.c2
            have i50 := blk_cell I5 0
            have i51 := blk_cell I5 1
            have i52 := blk_cell I5 2
            simp only [List.getElem?_toArray, List.getElem?_cons_succ, List.getElem?_cons_zero] at i50 i51 i52
            have dlt5 := F5.lt
            have BB6 := (GT.block _ (blk_lt HB4.out) (by simp)).trans HB4.out
            have b60 := blk_cell BB6 0
            have b61 := blk_cell BB6 1
            have b62 := blk_cell BB6 2
            have b63 := blk_cell BB6 3
            simp only [List.getElem?_toArray, List.getElem?_cons_succ, List.getElem?_cons_zero] at b60 b61 b62 b63
            have HG6 := Lib.hid (gb_trans HG4.out GT)
            have HX6 := Lib.hid ((bx_of hb2).grown gg6)
            have HX5 := Lib.hid (HX4.out.grown GT)
            have hszS : v.A.size = 4 * (v.w * v.h) := HSA.out
            obtain ⟨S, hS⟩ : ∃ S : ByteArray, v.A = S := ⟨_, rfl⟩
            rw [hS] at hszS HX6 HX5
            have KSM := fun u (h1 : Bx (some ⟨g, 0, none⟩) S u) (h2 : Bx (some ⟨gb, 0, none⟩) S u) => rsame_calls (v.w : Int) (v.h : Int) (v.w : Int) (v.h : Int) (some ⟨g, 0, none⟩) (some ⟨gb, 0, none⟩) (4 * (v.w * v.h)) (4 * (v.w * v.h)) S S u h1 h2
            simp only [sameB_self, hszS] at KSM
            have HKSM := Lib.hid KSM
            clear KSM hb2 hszS hS
            have HI5 := Lib.hid I5
            have HF5 := Lib.hid F5
            have HB6 := Lib.hid BB6
            clear gg6 I6 F6 I5 F5 g5 GT BB6 HL4 HI4 HF4 HB4 KR2 HKS HKP
            go_wp2_with fail
            refine (HKSM.out _ HX5.out HX6.out).mono ?_
            rintro e w8 ⟨rfl, g8⟩
            have G8 := Lib.hid (gb_trans HG6.out g8)
            have I8 := (g8.block _ (blk_lt HI5.out) (by simp)).trans HI5.out
            have F8 : Fl (w3.heap.size + 1) 0 0 0 _ := (g8.block _ HF5.out.lt (by simp)).trans HF5.out
            clear p50 p51 p52 i50 i51 i52 b60 b61 b62 b63
            have p80 := F8.c0
            have p81 := F8.c1
            have p82 := F8.c2
            have i80 := blk_cell I8 0
            have i81 := blk_cell I8 1
            have i82 := blk_cell I8 2
            simp only [List.getElem?_toArray, List.getElem?_cons_succ, List.getElem?_cons_zero] at i80 i81 i82
            have dlt8 := F8.lt
            have BB8 := (g8.block _ (blk_lt HB6.out) (by simp)).trans HB6.out
            have b80 := blk_cell BB8 0
            have b81 := blk_cell BB8 1
            have b82 := blk_cell BB8 2
            have b83 := blk_cell BB8 3
            simp only [List.getElem?_toArray, List.getElem?_cons_succ, List.getElem?_cons_zero] at b80 b81 b82 b83
            clear I8 F8 BB8 g8 HI5 HF5 HB6
            go_wp2_with fail
            refine (KAW.out _).mono ?_
            rintro e w9 ⟨rfl, g9⟩
            have G9 := Lib.hid (gb_trans G8.out g9)
            clear g9
            go_wp2
            go_ret
            exact ⟨rfl, G9.out⟩
          · exact absurd z0 z1
          · exfalso
            obtain ⟨_, h1⟩ := HV.out
            have h3 := HLEN.out
            have h4 := HWH.out
            have h5 : v.w * v.h ≤ 60 * 60 := Nat.mul_le_mul (by omega) (by omega)
            omega
      · simp only [img0, flF]
        have gg4 := gb_trans (World.grownBy_alloc w3 (.cells #[.int .i64 0, .int .i64 0, .slice none 0 0] 27) none) (World.grownBy_alloc _ (.cells #[.int .i64 v.f, .int .i64 5, .int .i64 v.p] 29) none)
        have I4 : ((w3.alloc (.cells #[.int .i64 0, .int .i64 0, .slice none 0 0] 27)).alloc (.cells #[.int .i64 v.f, .int .i64 5, .int .i64 v.p] 29)).heap[w3.heap.size]? = some (.cells #[.int .i64 0, .int .i64 0, .slice none 0 0] 27 (0, 0)) := blk_al blk_at _
        have F4 : Fl (w3.heap.size + 1) v.f 5 v.p ((w3.alloc (.cells #[.int .i64 0, .int .i64 0, .slice none 0 0] 27)).alloc (.cells #[.int .i64 v.f, .int .i64 5, .int .i64 v.p] 29)) := by
          rw [← size_alloc w3 (.cells #[.int .i64 0, .int .i64 0, .slice none 0 0] 27)]
          exact blk_at
        have p40 := F4.c0
        have p41 := F4.c1
        have p42 := F4.c2
        have i40 := blk_cell I4 0
        have i41 := blk_cell I4 1
        have i42 := blk_cell I4 2
        simp only [List.getElem?_toArray, List.getElem?_cons_succ, List.getElem?_cons_zero] at i40 i41 i42
        have dlt4 := F4.lt
        have BB4 := ((gb_trans gg3 gg4).block _ (blk_lt HB1.out) (by simp)).trans HB1.out
        have b40 := blk_cell BB4 0
        have b41 := blk_cell BB4 1
        have b42 := blk_cell BB4 2
        have b43 := blk_cell BB4 3
        simp only [List.getElem?_toArray, List.getElem?_cons_succ, List.getElem?_cons_zero] at b40 b41 b42 b43
        have hpk : y.pk ≤ pos gm := by
          have e1 := yok.pb
          rw [lim.b] at e1
          exact e1
        have hst : y.st ≤ pos g3 := by
          have e1 := yok.ts
          rw [lim.s] at e1
          exact e1
        have hp1 : pos gm ≤ max gm 0 := by unfold pos; split <;> omega
        have hp2 : pos g3 ≤ max g3 0 := by unfold pos; split <;> omega
        have dpk : decide (max gm 0 < y.pk) = false := decide_eq_false (by omega)
        have dst : decide (max g3 0 < y.st) = false := decide_eq_false (by omega)
        have KS1 : ∀ u, Led l y.ls u → Calls Tryz.prog 19 #[.pointer (some ⟨l, 0, none⟩)] u fun e w' => e = .returned (.int .i64 y.st) ∧ u = w' := fun u L => steps_calls l y.ls u L
        have KP1 : ∀ u, Led l y.ls u → Calls Tryz.prog 18 #[.pointer (some ⟨l, 0, none⟩)] u fun e w' => e = .returned (.int .i64 y.pk) ∧ u = w' := fun u L => peak_calls l y.ls u L
        have HKS := Lib.hid KS1
        have HKP := Lib.hid KP1
        have HL4 := Lib.hid (L.grown gg4 (by simp))
        have HG4 := Lib.hid (gb_trans (gb_trans HG1.out gg3) gg4)
        have HI4 := Lib.hid I4
        have HF4 := Lib.hid F4
        have HB4 := Lib.hid BB4
        have hz4 : v.f ≠ 4 := by
          have := HV.out.1
          omega
        have d4 : ((v.f : Int) == 4) = false := by rw [beq_eq_false_iff_ne]; omega
        clear L gg4 I4 F4 BB4 gg3 HB1 HG1 KS1 KP1 yok lim hpk hst hp1 hp2 b10 b11 b12 b13 BB1
        go_wp2_with fail
        generalize ((w3.alloc (.cells #[.int .i64 0, .int .i64 0, .slice none 0 0] 27)).alloc (.cells #[.int .i64 v.f, .int .i64 5, .int .i64 v.p] 29)) = w4 at HL4 HG4 HI4 HF4 HB4 p40 p41 p42 i40 i41 i42 dlt4 b40 b41 b42 b43 ⊢
        go_region_held3 (fun w' => w'.cell? ⟨w3.heap.size, 0, none⟩ = some (.int .i64 0) ∧ w'.cell? ⟨w3.heap.size, 1, none⟩ = some (.int .i64 0) ∧ w'.cell? ⟨w3.heap.size, 2, none⟩ = some (.slice none 0 0) ∧ w'.cell? ⟨w3.heap.size + 1, 0, none⟩ = some (.int .i64 v.f) ∧ w'.cell? ⟨w3.heap.size + 1, 1, none⟩ = some (.int .i64 5) ∧ w'.cell? ⟨w3.heap.size + 1, 2, none⟩ = some (.int .i64 v.p) ∧ w'.cell? ⟨W.heap.size, 0, none⟩ = some (.int .i64 g0) ∧ w'.cell? ⟨W.heap.size, 1, none⟩ = some (.int .i64 g1) ∧ w'.cell? ⟨W.heap.size, 2, none⟩ = some (.int .i64 gm) ∧ w'.cell? ⟨W.heap.size, 3, none⟩ = some (.int .i64 g3)) (go_keep)
          (first
            | (go_at_call 18; refine (HKP.out _ HL4.out.drew).mono ?_; rintro e w' ⟨rfl, rfl⟩)
            | (go_at_call 19; refine (HKS.out _ HL4.out.drew).mono ?_; rintro e w' ⟨rfl, rfl⟩))
        all_goals
          go_wp2_with fail
          refine (KW.out _).mono ?_
          rintro e w10 ⟨rfl, g10⟩
          have GA := gb_trans (gb_drew w4 none) g10
          have HGA := Lib.hid GA
          clear g10 GA p40 p41 p42 i40 i41 i42 b40 b41 b42 b43
          go_wp2_with fail
          refine (KR2.out _).mono ?_
          rintro e w5 ⟨img2, fault2, l2, rfl, y2, L2, ok2, lim2, g5, H2⟩
          have e1 : (St.new 16384 16384 262144 1048576).w = 16384 ∧ (St.new 16384 16384 262144 1048576).h = 16384 ∧ (St.new 16384 16384 262144 1048576).b = 262144 ∧ (St.new 16384 16384 262144 1048576).s = 1048576 := ⟨by decide, by decide, by decide, by decide⟩
          rw [e1.1, e1.2.1, e1.2.2.1, e1.2.2.2] at H2
          clear L2 ok2 lim2 e1
          rcases H2 with ⟨z1, ⟨gb, rfl, hb2, _⟩, rfl, _⟩ | ⟨z1, rfl, rfl, _⟩ | ⟨hno, _⟩
          · exact absurd z1 z0
          · simp only [img0, flF]
            have gg6 := gb_trans (World.grownBy_alloc w5 (.cells #[.int .i64 0, .int .i64 0, .slice none 0 0] 27) none) (World.grownBy_alloc _ (.cells #[.int .i64 v.f, .int .i64 5, .int .i64 v.p] 29) none)
            have I6 : ((w5.alloc (.cells #[.int .i64 0, .int .i64 0, .slice none 0 0] 27)).alloc (.cells #[.int .i64 v.f, .int .i64 5, .int .i64 v.p] 29)).heap[w5.heap.size]? = some (.cells #[.int .i64 0, .int .i64 0, .slice none 0 0] 27 (0, 0)) := blk_al blk_at _
            have F6 : Fl (w5.heap.size + 1) v.f 5 v.p ((w5.alloc (.cells #[.int .i64 0, .int .i64 0, .slice none 0 0] 27)).alloc (.cells #[.int .i64 v.f, .int .i64 5, .int .i64 v.p] 29)) := by
              rw [← size_alloc w5 (.cells #[.int .i64 0, .int .i64 0, .slice none 0 0] 27)]
              exact blk_at
            have p60 := F6.c0
            have p61 := F6.c1
            have p62 := F6.c2
            have i60 := blk_cell I6 0
            have i61 := blk_cell I6 1
            have i62 := blk_cell I6 2
            simp only [List.getElem?_toArray, List.getElem?_cons_succ, List.getElem?_cons_zero] at i60 i61 i62
            have dlt6 := F6.lt
            have GT := gb_trans (gb_trans HGA.out g5) gg6
            have I5 := (GT.block _ (blk_lt HI4.out) (by simp)).trans HI4.out
            have F5 : Fl (w3.heap.size + 1) v.f 5 v.p _ := (GT.block _ HF4.out.lt (by simp)).trans HF4.out
            have p50 := F5.c0
            have p51 := F5.c1
            have p52 := F5.c2
            have i50 := blk_cell I5 0
            have i51 := blk_cell I5 1
            have i52 := blk_cell I5 2
            simp only [List.getElem?_toArray, List.getElem?_cons_succ, List.getElem?_cons_zero] at i50 i51 i52
            have dlt5 := F5.lt
            have BB6 := (GT.block _ (blk_lt HB4.out) (by simp)).trans HB4.out
            have b60 := blk_cell BB6 0
            have b61 := blk_cell BB6 1
            have b62 := blk_cell BB6 2
            have b63 := blk_cell BB6 3
            simp only [List.getElem?_toArray, List.getElem?_cons_succ, List.getElem?_cons_zero] at b60 b61 b62 b63
            have HG6 := Lib.hid (gb_trans HG4.out GT)
            have KSM := fun u => rsame_calls 0 0 0 0 none none 0 0 ByteArray.empty ByteArray.empty u (.inl rfl) (.inl rfl)
            simp only [sameB_self, show ByteArray.empty.size = 0 from rfl] at KSM
            have HKSM := Lib.hid KSM
            clear KSM
            have HI5 := Lib.hid I5
            have HF5 := Lib.hid F5
            have HB6 := Lib.hid BB6
            clear gg6 I6 F6 I5 F5 g5 GT BB6 HL4 HI4 HF4 HB4 KR2 HKS HKP
            go_wp2_with fail
            refine (HKSM.out _).mono ?_
            rintro e w8 ⟨rfl, g8⟩
            have G8 := Lib.hid (gb_trans HG6.out g8)
            have I8 := (g8.block _ (blk_lt HI5.out) (by simp)).trans HI5.out
            have F8 : Fl (w3.heap.size + 1) v.f 5 v.p _ := (g8.block _ HF5.out.lt (by simp)).trans HF5.out
            clear p50 p51 p52 i50 i51 i52 b60 b61 b62 b63
            have p80 := F8.c0
            have p81 := F8.c1
            have p82 := F8.c2
            have i80 := blk_cell I8 0
            have i81 := blk_cell I8 1
            have i82 := blk_cell I8 2
            simp only [List.getElem?_toArray, List.getElem?_cons_succ, List.getElem?_cons_zero] at i80 i81 i82
            have dlt8 := F8.lt
            have BB8 := (g8.block _ (blk_lt HB6.out) (by simp)).trans HB6.out
            have b80 := blk_cell BB8 0
            have b81 := blk_cell BB8 1
            have b82 := blk_cell BB8 2
            have b83 := blk_cell BB8 3
            simp only [List.getElem?_toArray, List.getElem?_cons_succ, List.getElem?_cons_zero] at b80 b81 b82 b83
            clear I8 F8 BB8 g8 HI5 HF5 HB6
            go_wp2_with fail
            refine (KAW.out _).mono ?_
            rintro e w9 ⟨rfl, g9⟩
            have G9 := Lib.hid (gb_trans G8.out g9)
            clear g9
            go_wp2
            go_ret
            exact ⟨rfl, G9.out⟩
          · exfalso
            obtain ⟨_, h1⟩ := HV.out
            have h3 := HLEN.out
            have h4 := HWH.out
            have h5 : v.w * v.h ≤ 60 * 60 := Nat.mul_le_mul (by omega) (by omega)
            omega
      · simp only [img0, flF]
        have gg4 := gb_trans (World.grownBy_alloc w3 (.cells #[.int .i64 0, .int .i64 0, .slice none 0 0] 27) none) (World.grownBy_alloc _ (.cells #[.int .i64 4, .int .i64 5, .int .i64 q] 29) none)
        have I4 : ((w3.alloc (.cells #[.int .i64 0, .int .i64 0, .slice none 0 0] 27)).alloc (.cells #[.int .i64 4, .int .i64 5, .int .i64 q] 29)).heap[w3.heap.size]? = some (.cells #[.int .i64 0, .int .i64 0, .slice none 0 0] 27 (0, 0)) := blk_al blk_at _
        have F4 : Fl (w3.heap.size + 1) 4 5 q ((w3.alloc (.cells #[.int .i64 0, .int .i64 0, .slice none 0 0] 27)).alloc (.cells #[.int .i64 4, .int .i64 5, .int .i64 q] 29)) := by
          rw [← size_alloc w3 (.cells #[.int .i64 0, .int .i64 0, .slice none 0 0] 27)]
          exact blk_at
        have p40 := F4.c0
        have p41 := F4.c1
        have p42 := F4.c2
        have i40 := blk_cell I4 0
        have i41 := blk_cell I4 1
        have i42 := blk_cell I4 2
        simp only [List.getElem?_toArray, List.getElem?_cons_succ, List.getElem?_cons_zero] at i40 i41 i42
        have dlt4 := F4.lt
        have BB4 := ((gb_trans gg3 gg4).block _ (blk_lt HB1.out) (by simp)).trans HB1.out
        have b40 := blk_cell BB4 0
        have b41 := blk_cell BB4 1
        have b42 := blk_cell BB4 2
        have b43 := blk_cell BB4 3
        simp only [List.getElem?_toArray, List.getElem?_cons_succ, List.getElem?_cons_zero] at b40 b41 b42 b43
        have hpk : y.pk ≤ pos gm := by
          have e1 := yok.pb
          rw [lim.b] at e1
          exact e1
        have hst : y.st ≤ pos g3 := by
          have e1 := yok.ts
          rw [lim.s] at e1
          exact e1
        have hp1 : pos gm ≤ max gm 0 := by unfold pos; split <;> omega
        have hp2 : pos g3 ≤ max g3 0 := by unfold pos; split <;> omega
        have dpk : decide (max gm 0 < y.pk) = false := decide_eq_false (by omega)
        have dst : decide (max g3 0 < y.st) = false := decide_eq_false (by omega)
        have KS1 : ∀ u, Led l y.ls u → Calls Tryz.prog 19 #[.pointer (some ⟨l, 0, none⟩)] u fun e w' => e = .returned (.int .i64 y.st) ∧ u = w' := fun u L => steps_calls l y.ls u L
        have KP1 : ∀ u, Led l y.ls u → Calls Tryz.prog 18 #[.pointer (some ⟨l, 0, none⟩)] u fun e w' => e = .returned (.int .i64 y.pk) ∧ u = w' := fun u L => peak_calls l y.ls u L
        have HKS := Lib.hid KS1
        have HKP := Lib.hid KP1
        have HL4 := Lib.hid (L.grown gg4 (by simp))
        have HG4 := Lib.hid (gb_trans (gb_trans HG1.out gg3) gg4)
        have HI4 := Lib.hid I4
        have HF4 := Lib.hid F4
        have HB4 := Lib.hid BB4
        have d2 : decide ((0 : Int) ≤ (q : Int)) = true := decide_eq_true (by omega)
        have d3 : decide ((q : Int) ≤ (s.size : Int)) = true := decide_eq_true (by omega)
        have KB : ∀ u, Led l y.ls u → Calls Tryz.prog 20 #[.pointer (some ⟨l, 0, none⟩)] u fun e w' => e = .returned (.bool true) ∧ u = w' := fun u L => (broken_calls l y.ls u L).mono (fun e w' ⟨he, hw⟩ => ⟨by rw [he]; unfold St.ls; simp [hr], hw⟩)
        have KY : ∀ u, Led l y.ls u → Calls Tryz.prog 15 #[.pointer (some ⟨l, 0, none⟩)] u fun e w' => e = .returned (.int .i64 0) ∧ u = w' := fun u L => (bytes_calls l y.ls u L).mono (fun e w' ⟨he, hw⟩ => ⟨by rw [he]; exact congrArg (fun t => Ending.returned (.int .i64 t)) hby, hw⟩)
        have KSA := fun u => same_calls' 0 0 0 0 none none 0 0 ByteArray.empty ByteArray.empty u (.inl rfl) (.inl rfl)
        simp only [sameB_self, show ByteArray.empty.size = 0 from rfl] at KSA
        have HKSA := Lib.hid KSA
        have HKY := Lib.hid KY
        have HKB := Lib.hid KB
        clear KB KY KSA
        clear L gg4 I4 F4 BB4 gg3 HB1 HG1 KS1 KP1 yok lim hpk hst hp1 hp2 b10 b11 b12 b13 BB1
        go_wp2_with fail
        generalize ((w3.alloc (.cells #[.int .i64 0, .int .i64 0, .slice none 0 0] 27)).alloc (.cells #[.int .i64 4, .int .i64 5, .int .i64 q] 29)) = w4 at HL4 HG4 HI4 HF4 HB4 p40 p41 p42 i40 i41 i42 dlt4 b40 b41 b42 b43 ⊢
        go_region_held3 (fun w' => w'.cell? ⟨w3.heap.size, 0, none⟩ = some (.int .i64 0) ∧ w'.cell? ⟨w3.heap.size, 1, none⟩ = some (.int .i64 0) ∧ w'.cell? ⟨w3.heap.size, 2, none⟩ = some (.slice none 0 0) ∧ w'.cell? ⟨w3.heap.size + 1, 0, none⟩ = some (.int .i64 4) ∧ w'.cell? ⟨w3.heap.size + 1, 1, none⟩ = some (.int .i64 5) ∧ w'.cell? ⟨w3.heap.size + 1, 2, none⟩ = some (.int .i64 q) ∧ w'.cell? ⟨W.heap.size, 0, none⟩ = some (.int .i64 g0) ∧ w'.cell? ⟨W.heap.size, 1, none⟩ = some (.int .i64 g1) ∧ w'.cell? ⟨W.heap.size, 2, none⟩ = some (.int .i64 gm) ∧ w'.cell? ⟨W.heap.size, 3, none⟩ = some (.int .i64 g3)) (go_keep)
          (first
            | (go_at_call 18; refine (HKP.out _ HL4.out.drew).mono ?_; rintro e w' ⟨rfl, rfl⟩)
            | (go_at_call 19; refine (HKS.out _ HL4.out.drew).mono ?_; rintro e w' ⟨rfl, rfl⟩))
        all_goals
          go_wp2_with fail
          refine (HKB.out _ HL4.out.drew).mono ?_
          rintro e w' ⟨rfl, rfl⟩
          go_wp2_with fail
          refine (HKY.out _ HL4.out.drew).mono ?_
          rintro e w' ⟨rfl, rfl⟩
          go_wp2_with fail
          refine (HKSA.out _).mono ?_
          rintro e w8 ⟨rfl, g8⟩
          have G8 := Lib.hid (gb_trans HG4.out (gb_trans (gb_drew w4 none) g8))
          clear g8
          go_wp2_with fail
          refine (KAW.out _).mono ?_
          rintro e w9 ⟨rfl, g9⟩
          have G9 := Lib.hid (gb_trans G8.out g9)
          clear g9
          go_wp2
          go_ret
          exact ⟨rfl, G9.out⟩

set_option maxRecDepth 100000 in
set_option maxHeartbeats 4000000 in
theorem buds_long (KAW0 : ∀ u : World, Calls Tryz.prog 7 #[] u fun e w' => e = .returned (.bool true) ∧ u.grownBy w' none) (s : ByteArray) (hlen : 900 < s.size) (g0 g1 g2 g3 : Int) (W : World) :
    Calls Tryz.prog 4 #[.string s, .agg #[.int .i64 g0, .int .i64 g1, .int .i64 g2, .int .i64 g3]] W fun e w' => e = .returned (.bool true) ∧ W.grownBy w' none := by
  have KAW := Lib.hid KAW0
  have dlen : decide ((900 : Int) < (s.size : Int)) = true := decide_eq_true (by omega)
  clear hlen
  go_enter Tryz.func4, Tryz.ntmps4
  go_wp2_with fail
  refine (KAW.out _).mono ?_
  rintro e w9 ⟨rfl, g9⟩
  have G9 := Lib.hid (gb_trans (World.grownBy_alloc W (.cells #[.int .i64 g0, .int .i64 g1, .int .i64 g2, .int .i64 g3] 34) none) g9)
  clear g9
  go_wp2
  go_ret
  exact ⟨rfl, G9.out⟩


theorem buds_any (KAW0 : ∀ u : World, Calls Tryz.prog 7 #[] u fun e w' => e = .returned (.bool true) ∧ u.grownBy w' none) (s : ByteArray) (g0 g1 g2 g3 : Int) (W : World) (hs : s.size ≤ 9223372036854775807) (h0 : g0 ≤ 9223372036854775807) (h1 : g1 ≤ 9223372036854775807) (h3 : g3 ≤ 9223372036854775807) :
    Calls Tryz.prog 4 #[.string s, .agg #[.int .i64 g0, .int .i64 g1, .int .i64 g2, .int .i64 g3]] W fun e w' => e = .returned (.bool true) ∧ W.grownBy w' none := by
  by_cases hlen : s.size ≤ 900
  · obtain ⟨v, C⟩ := cl_ex s
    exact buds_at KAW0 s v (td_of C) (fun u => rsides_of C hs u) (cl_f C) (cl_N C) hlen g0 g1 g2 g3 W h0 h1 h3
  · exact buds_long KAW0 s (by omega) g0 g1 g2 g3 W

end Go.Proofs.YthihmpekiagbbaaGreat.Qo
