/- Texts of one kind, one behind the other: Spt1. -/
import Derived.Test.YtcfdippcobkbaaaGreatG20
import Derived.Test.YtcfdippcobkbaaaGreatG24
import Derived.Test.YtcfdippcobkbaaaGreatG25
/- The law of layer 13: where the work runs out, walked (written by wip/gen/spt1.py). -/
namespace Go.Proofs.YtcfdippcobkbaaaGreat.Px
open Go.ChangeShapes Go.WideShapes Go.ChangeAt Go.RowKit
open Go.Proofs.YtcfdippcobkbaaaGreat.Le Go.Proofs.YtcfdippcobkbaaaGreat.Tk Go.Proofs.YtcfdippcobkbaaaGreat.Sc Go.Proofs.YtcfdippcobkbaaaGreat.Sr Go.Proofs.YtcfdippcobkbaaaGreat.Ph Go.Proofs.YtcfdippcobkbaaaGreat.Ra
set_option linter.unusedVariables false

theorem u16_of {z : Int} (h : (Lit.int .u16 z).wf = true) : 0 ≤ z ∧ z ≤ 65535 := by
  have h1 : IntKind.u16.min = 0 := rfl
  have h2 : IntKind.u16.max = 65535 := rfl
  simp only [Lit.wf, Bool.and_eq_true, decide_eq_true_eq] at h
  omega

set_option maxRecDepth 100000 in
set_option maxHeartbeats 8000000 in
theorem spent_any (s : ByteArray) (n : Int) (hn0 : 0 ≤ n) (hn1 : n ≤ 65535) (W : World) (hs : s.size ≤ 9223372036854775807) : Calls Tryz.prog 4 #[.string s, .int .u16 n] W fun e w' => e = .returned (.bool true) ∧ W.grownBy w' none := by
  by_cases hlen : s.size ≤ 600
  · have dlen : decide ((600 : Int) < (s.size : Int)) = false := decide_eq_false (by omega)
    have KR := fun u => rread_calls s u (by omega)
    rcases readV_gd s with ⟨k, w, h, m, a, hV, hg⟩ | ⟨f, p, hV, f0, f4, hp⟩
    · rw [hV] at KR
      have KR := Lib.hid KR
      by_cases hin : (k ≤ 3) ∧ w ≤ 100 ∧ h ≤ 100
      · obtain ⟨hk, hw, hh⟩ := hin
        have dk : decide ((3 : Int) < (k : Int)) = false := decide_eq_false (by omega)
        have dw : decide ((100 : Int) < (w : Int)) = false := decide_eq_false (by omega)
        have dh : decide ((100 : Int) < (h : Int)) = false := decide_eq_false (by omega)
        have HS := Lib.hid (show s.size ≤ 9223372036854775806 by omega)
        have HLEN := Lib.hid hlen
        have HV := Lib.hid hV
        have HG := Lib.hid hg
        have HK := Lib.hid hk
        clear hs hlen hV hg hk
        go_enter Tryz.func4, Tryz.ntmps4
        go_wp2_with fail
        refine (KR.out _).mono ?_
        rintro e w1 ⟨rfl, g1⟩
        have B1 : (w1.alloc (.cells #[.int .i64 k, .int .i64 w, .int .i64 h, .int .i64 m, .int .i64 a, .int .i64 0, .int .i64 0] 24)).heap[w1.heap.size]? = _ := blk_at
        have HB1 := Lib.hid B1
        have HG1 := Lib.hid (gb_trans g1 (World.grownBy_alloc w1 (.cells #[.int .i64 k, .int .i64 w, .int .i64 h, .int .i64 m, .int .i64 a, .int .i64 0, .int .i64 0] 24) none))
        clear B1 g1 KR
        simp only [hdA, show ((0 : Nat) : Int) = 0 from rfl]
        go_wp2_with fail
        generalize w1.alloc (.cells #[.int .i64 k, .int .i64 w, .int .i64 h, .int .i64 m, .int .i64 a, .int .i64 0, .int .i64 0] 24) = w2 at HB1 HG1 ⊢
        have hM0 : 0 ≤ n % 2000 := by omega
        have hM1 : n % 2000 ≤ 1999 := by omega
        have KLa := lread13_calls s k w h m a (n % 2000) w2 HS.out HV.out HG.out HK.out hw hh hM0 (by omega)
        have KLb := fun u => lread13_calls s k w h m a 100000 u HS.out HV.out HG.out HK.out hw hh (by decide) (by decide)
        obtain ⟨z, hz⟩ : ∃ z, pxs s k m a (w * h) = z := ⟨_, rfl⟩
        have hgd := pxs_gd s k m a (w * h) HG.out.le HG.out.m1
        rw [hz] at KLa hgd
        rw [hz] at KLb
        have hN : w * h ≤ 10000 := Nat.le_trans (Nat.mul_le_mul hw hh) (by decide)
        have hn0 := readN_le s
        have HKLb := Lib.hid KLb
        have HGD := Lib.hid hgd
        have HN := Lib.hid (And.intro hN hn0)
        clear KLb hgd hN hn0 hz
        refine KLa.mono ?_
        clear KLa
        rintro e w3 ⟨img, fault, l, ok, rfl, y, L, yok, hs1, g3, ⟨z0, rfl, ⟨g, rfl, hb⟩, rfl, hr, ht⟩ | ⟨z0, rfl, rfl, rfl, hr, ht⟩ | ⟨hno, rfl, ⟨q, hq, rfl⟩, hr, ht⟩⟩
        · simp only [okF]
          have gg4 := gb_trans (World.grownBy_alloc w3 (.cells #[.int .i64 w, .int .i64 h, .slice (some ⟨g, 0, none⟩) (4 * (w * h)) (4 * (w * h))] 32) none) (World.grownBy_alloc _ (.cells #[.int .i64 0, .int .i64 0, .int .i64 0] 34) none)
          have I4 : ((w3.alloc (.cells #[.int .i64 w, .int .i64 h, .slice (some ⟨g, 0, none⟩) (4 * (w * h)) (4 * (w * h))] 32)).alloc (.cells #[.int .i64 0, .int .i64 0, .int .i64 0] 34)).heap[w3.heap.size]? = some (.cells #[.int .i64 w, .int .i64 h, .slice (some ⟨g, 0, none⟩) (4 * (w * h)) (4 * (w * h))] 32 (0, 0)) := blk_al blk_at _
          have F4 : Fl (w3.heap.size + 1) 0 0 0 ((w3.alloc (.cells #[.int .i64 w, .int .i64 h, .slice (some ⟨g, 0, none⟩) (4 * (w * h)) (4 * (w * h))] 32)).alloc (.cells #[.int .i64 0, .int .i64 0, .int .i64 0] 34)) := by
            rw [← size_alloc w3 (.cells #[.int .i64 w, .int .i64 h, .slice (some ⟨g, 0, none⟩) (4 * (w * h)) (4 * (w * h))] 32)]
            exact blk_at
          have p40 := F4.c0
          have p41 := F4.c1
          have p42 := F4.c2
          have i40 := blk_cell I4 0
          have i41 := blk_cell I4 1
          have i42 := blk_cell I4 2
          simp only [List.getElem?_toArray, List.getElem?_cons_succ, List.getElem?_cons_zero] at i40 i41 i42
          have dlt4 := F4.lt
          have hle : y.st ≤ n % 2000 := by
            rw [← hs1]
            exact yok.ts
          have dst : decide (n % 2000 < y.st) = false := decide_eq_false (by omega)
          have KS : ∀ u, Led l y.ls u → Calls Tryz.prog 14 #[.pointer (some ⟨l, 0, none⟩)] u fun e w' => e = .returned (.int .i64 y.st) ∧ u = w' := fun u L => steps_calls l y.ls u L
          have HKS := Lib.hid KS
          have HL4 := Lib.hid (L.grown gg4 (by simp))
          have HG4 := Lib.hid (gb_trans (gb_trans HG1.out g3) gg4)
          have HI4 := Lib.hid I4
          have HF4 := Lib.hid F4
          have KAW := Lib.hid (fun u => awake13_calls u)
          have HX4 := Lib.hid ((bx_of hb).grown gg4)
          clear hb
          clear L gg4 I4 F4 g3 HB1 HG1 KS hs1 yok
          go_wp2_with fail
          generalize ((w3.alloc (.cells #[.int .i64 w, .int .i64 h, .slice (some ⟨g, 0, none⟩) (4 * (w * h)) (4 * (w * h))] 32)).alloc (.cells #[.int .i64 0, .int .i64 0, .int .i64 0] 34)) = w4 at HL4 HG4 HI4 HF4 p40 p41 p42 i40 i41 i42 dlt4 HX4 ⊢
          refine (HKS.out _ HL4.out).mono ?_
          rintro e w' ⟨rfl, rfl⟩
          go_wp2_with fail
          refine (HKLb.out _).mono ?_
          rintro e w5 ⟨img2, fault2, l2, ok2, rfl, y2, _, _, _, g5, ⟨z1, rfl, ⟨gb, rfl, hb2⟩, rfl, _, _⟩ | ⟨z1, rfl, rfl, rfl, _, _⟩ | ⟨hno, _⟩⟩
          · simp only [okF]
            have gg6 := gb_trans (World.grownBy_alloc w5 (.cells #[.int .i64 w, .int .i64 h, .slice (some ⟨gb, 0, none⟩) (4 * (w * h)) (4 * (w * h))] 32) none) (World.grownBy_alloc _ (.cells #[.int .i64 0, .int .i64 0, .int .i64 0] 34) none)
            have I6 : ((w5.alloc (.cells #[.int .i64 w, .int .i64 h, .slice (some ⟨gb, 0, none⟩) (4 * (w * h)) (4 * (w * h))] 32)).alloc (.cells #[.int .i64 0, .int .i64 0, .int .i64 0] 34)).heap[w5.heap.size]? = some (.cells #[.int .i64 w, .int .i64 h, .slice (some ⟨gb, 0, none⟩) (4 * (w * h)) (4 * (w * h))] 32 (0, 0)) := blk_al blk_at _
            have F6 : Fl (w5.heap.size + 1) 0 0 0 ((w5.alloc (.cells #[.int .i64 w, .int .i64 h, .slice (some ⟨gb, 0, none⟩) (4 * (w * h)) (4 * (w * h))] 32)).alloc (.cells #[.int .i64 0, .int .i64 0, .int .i64 0] 34)) := by
              rw [← size_alloc w5 (.cells #[.int .i64 w, .int .i64 h, .slice (some ⟨gb, 0, none⟩) (4 * (w * h)) (4 * (w * h))] 32)]
              exact blk_at
            have p60 := F6.c0
            have p61 := F6.c1
            have p62 := F6.c2
            have i60 := blk_cell I6 0
            have i61 := blk_cell I6 1
            have i62 := blk_cell I6 2
            simp only [List.getElem?_toArray, List.getElem?_cons_succ, List.getElem?_cons_zero] at i60 i61 i62
            have dlt6 := F6.lt
            have I5 := ((gb_trans g5 gg6).block _ (blk_lt HI4.out) (by simp)).trans HI4.out
            have F5 : Fl (w3.heap.size + 1) 0 0 0 _ := ((gb_trans g5 gg6).block _ HF4.out.lt (by simp)).trans HF4.out
            have p50 := F5.c0
            have p51 := F5.c1
            have p52 := F5.c2
            have i50 := blk_cell I5 0
            have i51 := blk_cell I5 1
            have i52 := blk_cell I5 2
            simp only [List.getElem?_toArray, List.getElem?_cons_succ, List.getElem?_cons_zero] at i50 i51 i52
            have dlt5 := F5.lt
            have HG6 := Lib.hid (gb_trans (gb_trans HG4.out g5) gg6)
            have HX6 := Lib.hid ((bx_of hb2).grown gg6)
            have HX5 := Lib.hid (HX4.out.grown (gb_trans g5 gg6))
            have hszS : (rb z.l (w * h)).size = 4 * (w * h) := rb_size z.l (w * h) HGD.out.2.1
            obtain ⟨S, hS⟩ : ∃ S : ByteArray, rb z.l (w * h) = S := ⟨_, rfl⟩
            rw [hS] at hszS HX6 HX5
            have KSM := fun u (h1 : Bx (some ⟨g, 0, none⟩) S u) (h2 : Bx (some ⟨gb, 0, none⟩) S u) => rsame_calls (w : Int) (h : Int) (w : Int) (h : Int) (some ⟨g, 0, none⟩) (some ⟨gb, 0, none⟩) (4 * (w * h)) (4 * (w * h)) S S u h1 h2
            simp only [sameB_self, hszS] at KSM
            have HKSM := Lib.hid KSM
            clear KSM hb2 hszS hS
            clear gg6 I6 F6 I5 F5 g5 HL4 HI4 HF4 HKLb HKS p40 p41 p42 i40 i41 i42
            go_wp2_with fail
            refine (HKSM.out _ HX5.out HX6.out).mono ?_
            rintro e w8 ⟨rfl, g8⟩
            have G8 := Lib.hid (gb_trans HG6.out g8)
            clear g8
            go_wp2_with fail
            refine (KAW.out _).mono ?_
            rintro e w9 ⟨rfl, g9⟩
            have G9 := Lib.hid (gb_trans G8.out g9)
            clear g9
            go_wp2
            go_ret
            exact ⟨rfl, G9.out⟩
          · exact absurd z0 z1
          · exfalso
            have h1 := HGD.out
            have h2 := HN.out
            have h3 := HLEN.out
            omega
        · simp only [img0]
          have gg4 := gb_trans (World.grownBy_alloc w3 (.cells #[.int .i64 0, .int .i64 0, .slice none 0 0] 32) none) (World.grownBy_alloc _ (.cells #[.int .i64 z.f, .int .i64 3, .int .i64 z.p] 34) none)
          have I4 : ((w3.alloc (.cells #[.int .i64 0, .int .i64 0, .slice none 0 0] 32)).alloc (.cells #[.int .i64 z.f, .int .i64 3, .int .i64 z.p] 34)).heap[w3.heap.size]? = some (.cells #[.int .i64 0, .int .i64 0, .slice none 0 0] 32 (0, 0)) := blk_al blk_at _
          have F4 : Fl (w3.heap.size + 1) z.f 3 z.p ((w3.alloc (.cells #[.int .i64 0, .int .i64 0, .slice none 0 0] 32)).alloc (.cells #[.int .i64 z.f, .int .i64 3, .int .i64 z.p] 34)) := by
            rw [← size_alloc w3 (.cells #[.int .i64 0, .int .i64 0, .slice none 0 0] 32)]
            exact blk_at
          have p40 := F4.c0
          have p41 := F4.c1
          have p42 := F4.c2
          have i40 := blk_cell I4 0
          have i41 := blk_cell I4 1
          have i42 := blk_cell I4 2
          simp only [List.getElem?_toArray, List.getElem?_cons_succ, List.getElem?_cons_zero] at i40 i41 i42
          have dlt4 := F4.lt
          have hle : y.st ≤ n % 2000 := by
            rw [← hs1]
            exact yok.ts
          have dst : decide (n % 2000 < y.st) = false := decide_eq_false (by omega)
          have KS : ∀ u, Led l y.ls u → Calls Tryz.prog 14 #[.pointer (some ⟨l, 0, none⟩)] u fun e w' => e = .returned (.int .i64 y.st) ∧ u = w' := fun u L => steps_calls l y.ls u L
          have HKS := Lib.hid KS
          have HL4 := Lib.hid (L.grown gg4 (by simp))
          have HG4 := Lib.hid (gb_trans (gb_trans HG1.out g3) gg4)
          have HI4 := Lib.hid I4
          have HF4 := Lib.hid F4
          have KAW := Lib.hid (fun u => awake13_calls u)
          have hz4 : z.f ≠ 4 := by
            have := HGD.out.2.2.2.1
            omega
          have d4 : ((z.f : Int) == 4) = false := by rw [beq_eq_false_iff_ne]; omega
          clear L gg4 I4 F4 g3 HB1 HG1 KS hs1 yok
          go_wp2_with fail
          generalize ((w3.alloc (.cells #[.int .i64 0, .int .i64 0, .slice none 0 0] 32)).alloc (.cells #[.int .i64 z.f, .int .i64 3, .int .i64 z.p] 34)) = w4 at HL4 HG4 HI4 HF4 p40 p41 p42 i40 i41 i42 dlt4 ⊢
          refine (HKS.out _ HL4.out).mono ?_
          rintro e w' ⟨rfl, rfl⟩
          go_wp2_with fail
          refine (HKLb.out _).mono ?_
          rintro e w5 ⟨img2, fault2, l2, ok2, rfl, y2, _, _, _, g5, ⟨z1, rfl, ⟨gb, rfl, hb2⟩, rfl, _, _⟩ | ⟨z1, rfl, rfl, rfl, _, _⟩ | ⟨hno, _⟩⟩
          · exact absurd z1 z0
          · simp only [img0]
            have gg6 := gb_trans (World.grownBy_alloc w5 (.cells #[.int .i64 0, .int .i64 0, .slice none 0 0] 32) none) (World.grownBy_alloc _ (.cells #[.int .i64 z.f, .int .i64 3, .int .i64 z.p] 34) none)
            have I6 : ((w5.alloc (.cells #[.int .i64 0, .int .i64 0, .slice none 0 0] 32)).alloc (.cells #[.int .i64 z.f, .int .i64 3, .int .i64 z.p] 34)).heap[w5.heap.size]? = some (.cells #[.int .i64 0, .int .i64 0, .slice none 0 0] 32 (0, 0)) := blk_al blk_at _
            have F6 : Fl (w5.heap.size + 1) z.f 3 z.p ((w5.alloc (.cells #[.int .i64 0, .int .i64 0, .slice none 0 0] 32)).alloc (.cells #[.int .i64 z.f, .int .i64 3, .int .i64 z.p] 34)) := by
              rw [← size_alloc w5 (.cells #[.int .i64 0, .int .i64 0, .slice none 0 0] 32)]
              exact blk_at
            have p60 := F6.c0
            have p61 := F6.c1
            have p62 := F6.c2
            have i60 := blk_cell I6 0
            have i61 := blk_cell I6 1
            have i62 := blk_cell I6 2
            simp only [List.getElem?_toArray, List.getElem?_cons_succ, List.getElem?_cons_zero] at i60 i61 i62
            have dlt6 := F6.lt
            have I5 := ((gb_trans g5 gg6).block _ (blk_lt HI4.out) (by simp)).trans HI4.out
            have F5 : Fl (w3.heap.size + 1) z.f 3 z.p _ := ((gb_trans g5 gg6).block _ HF4.out.lt (by simp)).trans HF4.out
            have p50 := F5.c0
            have p51 := F5.c1
            have p52 := F5.c2
            have i50 := blk_cell I5 0
            have i51 := blk_cell I5 1
            have i52 := blk_cell I5 2
            simp only [List.getElem?_toArray, List.getElem?_cons_succ, List.getElem?_cons_zero] at i50 i51 i52
            have dlt5 := F5.lt
            have HG6 := Lib.hid (gb_trans (gb_trans HG4.out g5) gg6)
            have KSM := fun u => rsame_calls 0 0 0 0 none none 0 0 ByteArray.empty ByteArray.empty u (.inl rfl) (.inl rfl)
            simp only [sameB_self, show ByteArray.empty.size = 0 from rfl] at KSM
            have HKSM := Lib.hid KSM
            clear KSM
            clear gg6 I6 F6 I5 F5 g5 HL4 HI4 HF4 HKLb HKS p40 p41 p42 i40 i41 i42
            go_wp2_with fail
            refine (HKSM.out _).mono ?_
            rintro e w8 ⟨rfl, g8⟩
            have G8 := Lib.hid (gb_trans HG6.out g8)
            clear g8
            go_wp2_with fail
            refine (KAW.out _).mono ?_
            rintro e w9 ⟨rfl, g9⟩
            have G9 := Lib.hid (gb_trans G8.out g9)
            clear g9
            go_wp2
            go_ret
            exact ⟨rfl, G9.out⟩
          · exfalso
            have h1 := HGD.out
            have h2 := HN.out
            have h3 := HLEN.out
            omega
        · simp only [img0]
          have gg4 := gb_trans (World.grownBy_alloc w3 (.cells #[.int .i64 0, .int .i64 0, .slice none 0 0] 32) none) (World.grownBy_alloc _ (.cells #[.int .i64 4, .int .i64 3, .int .i64 q] 34) none)
          have I4 : ((w3.alloc (.cells #[.int .i64 0, .int .i64 0, .slice none 0 0] 32)).alloc (.cells #[.int .i64 4, .int .i64 3, .int .i64 q] 34)).heap[w3.heap.size]? = some (.cells #[.int .i64 0, .int .i64 0, .slice none 0 0] 32 (0, 0)) := blk_al blk_at _
          have F4 : Fl (w3.heap.size + 1) 4 3 q ((w3.alloc (.cells #[.int .i64 0, .int .i64 0, .slice none 0 0] 32)).alloc (.cells #[.int .i64 4, .int .i64 3, .int .i64 q] 34)) := by
            rw [← size_alloc w3 (.cells #[.int .i64 0, .int .i64 0, .slice none 0 0] 32)]
            exact blk_at
          have p40 := F4.c0
          have p41 := F4.c1
          have p42 := F4.c2
          have i40 := blk_cell I4 0
          have i41 := blk_cell I4 1
          have i42 := blk_cell I4 2
          simp only [List.getElem?_toArray, List.getElem?_cons_succ, List.getElem?_cons_zero] at i40 i41 i42
          have dlt4 := F4.lt
          have hle : y.st ≤ n % 2000 := by
            rw [← hs1]
            exact yok.ts
          have dst : decide (n % 2000 < y.st) = false := decide_eq_false (by omega)
          have KS : ∀ u, Led l y.ls u → Calls Tryz.prog 14 #[.pointer (some ⟨l, 0, none⟩)] u fun e w' => e = .returned (.int .i64 y.st) ∧ u = w' := fun u L => steps_calls l y.ls u L
          have HKS := Lib.hid KS
          have HL4 := Lib.hid (L.grown gg4 (by simp))
          have HG4 := Lib.hid (gb_trans (gb_trans HG1.out g3) gg4)
          have HI4 := Lib.hid I4
          have HF4 := Lib.hid F4
          have KAW := Lib.hid (fun u => awake13_calls u)
          have d2 : decide ((0 : Int) ≤ (q : Int)) = true := decide_eq_true (by omega)
          have d3 : decide ((q : Int) ≤ (s.size : Int)) = true := decide_eq_true (by omega)
          have KB : ∀ u, Led l y.ls u → Calls Tryz.prog 15 #[.pointer (some ⟨l, 0, none⟩)] u fun e w' => e = .returned (.bool true) ∧ u = w' := fun u L => (broken_calls l y.ls u L).mono (fun e w' ⟨he, hw⟩ => ⟨by rw [he]; unfold St.ls; simp [hr], hw⟩)
          have HKB := Lib.hid KB
          clear KB
          clear L gg4 I4 F4 g3 HB1 HG1 KS hs1 yok
          go_wp2_with fail
          generalize ((w3.alloc (.cells #[.int .i64 0, .int .i64 0, .slice none 0 0] 32)).alloc (.cells #[.int .i64 4, .int .i64 3, .int .i64 q] 34)) = w4 at HL4 HG4 HI4 HF4 p40 p41 p42 i40 i41 i42 dlt4 ⊢
          refine (HKS.out _ HL4.out).mono ?_
          rintro e w' ⟨rfl, rfl⟩
          go_wp2_with fail
          refine (HKB.out _ HL4.out).mono ?_
          rintro e w' ⟨rfl, rfl⟩
          go_wp2_with fail
          refine (KAW.out _).mono ?_
          rintro e w9 ⟨rfl, g9⟩
          have G9 := Lib.hid (gb_trans HG4.out g9)
          clear g9
          go_wp2
          go_ret
          exact ⟨rfl, G9.out⟩
      · have hor : (3 < k) ∨ 100 < w ∨ 100 < h := by omega
        by_cases hkk : 3 < k
        · have dk : decide ((3 : Int) < (k : Int)) = true := decide_eq_true (by omega)
          clear hin hor hs hV hg
          go_enter Tryz.func4, Tryz.ntmps4
          go_wp2_with fail
          refine (KR.out _).mono ?_
          rintro e w1 ⟨rfl, g1⟩
          have HG1 := Lib.hid (gb_trans g1 (World.grownBy_alloc w1 (.cells #[.int .i64 k, .int .i64 w, .int .i64 h, .int .i64 m, .int .i64 a, .int .i64 0, .int .i64 0] 24) none))
          clear g1 KR
          simp only [hdA, show ((0 : Nat) : Int) = 0 from rfl]
          go_wp2_with fail
          refine (awake13_calls _).mono ?_
          rintro e w9 ⟨rfl, g9⟩
          have G9 := Lib.hid (gb_trans HG1.out g9)
          clear g9
          go_wp2
          go_ret
          exact ⟨rfl, G9.out⟩
        · have dk : decide ((3 : Int) < (k : Int)) = false := decide_eq_false (by omega)
          by_cases hww : 100 < w
          · have dw : decide ((100 : Int) < (w : Int)) = true := decide_eq_true (by omega)
            clear hin hor hs hV hg hkk
            go_enter Tryz.func4, Tryz.ntmps4
            go_wp2_with fail
            refine (KR.out _).mono ?_
            rintro e w1 ⟨rfl, g1⟩
            have HG1 := Lib.hid (gb_trans g1 (World.grownBy_alloc w1 (.cells #[.int .i64 k, .int .i64 w, .int .i64 h, .int .i64 m, .int .i64 a, .int .i64 0, .int .i64 0] 24) none))
            clear g1 KR
            simp only [hdA, show ((0 : Nat) : Int) = 0 from rfl]
            go_wp2_with fail
            refine (awake13_calls _).mono ?_
            rintro e w9 ⟨rfl, g9⟩
            have G9 := Lib.hid (gb_trans HG1.out g9)
            clear g9
            go_wp2
            go_ret
            exact ⟨rfl, G9.out⟩
          · have dw : decide ((100 : Int) < (w : Int)) = false := decide_eq_false (by omega)
            have dh : decide ((100 : Int) < (h : Int)) = true := decide_eq_true (by omega)
            clear hin hor hs hV hg hkk
            go_enter Tryz.func4, Tryz.ntmps4
            go_wp2_with fail
            refine (KR.out _).mono ?_
            rintro e w1 ⟨rfl, g1⟩
            have HG1 := Lib.hid (gb_trans g1 (World.grownBy_alloc w1 (.cells #[.int .i64 k, .int .i64 w, .int .i64 h, .int .i64 m, .int .i64 a, .int .i64 0, .int .i64 0] 24) none))
            clear g1 KR
            simp only [hdA, show ((0 : Nat) : Int) = 0 from rfl]
            go_wp2_with fail
            refine (awake13_calls _).mono ?_
            rintro e w9 ⟨rfl, g9⟩
            have G9 := Lib.hid (gb_trans HG1.out g9)
            clear g9
            go_wp2
            go_ret
            exact ⟨rfl, G9.out⟩
    · rw [hV] at KR
      have KR := Lib.hid KR
      have df : ((f : Int) != 0) = true := by rw [bne_iff_ne]; omega
      clear hs hV
      go_enter Tryz.func4, Tryz.ntmps4
      go_wp2_with fail
      refine (KR.out _).mono ?_
      rintro e w1 ⟨rfl, g1⟩
      have HG1 := Lib.hid (gb_trans g1 (World.grownBy_alloc w1 (.cells #[.int .i64 0, .int .i64 0, .int .i64 0, .int .i64 0, .int .i64 0, .int .i64 f, .int .i64 p] 24) none))
      clear g1 KR
      simp only [hdA, show ((0 : Nat) : Int) = 0 from rfl]
      go_wp2_with fail
      refine (awake13_calls _).mono ?_
      rintro e w9 ⟨rfl, g9⟩
      have G9 := Lib.hid (gb_trans HG1.out g9)
      clear g9
      go_wp2
      go_ret
      exact ⟨rfl, G9.out⟩
  · have dlen : decide ((600 : Int) < (s.size : Int)) = true := decide_eq_true (by omega)
    clear hs
    go_enter Tryz.func4, Tryz.ntmps4
    go_wp2_with fail
    refine (awake13_calls _).mono ?_
    rintro e w9 ⟨rfl, g9⟩
    have G9 := Lib.hid g9
    clear g9
    go_wp2
    go_ret
    exact ⟨rfl, G9.out⟩

end Go.Proofs.YtcfdippcobkbaaaGreat.Px
