/- Texts of one kind, one behind the other: Bud1, Bud2, Bud3. -/
import Derived.Test.YtcfdippcobkbaaaGreatG20
import Derived.Test.YtcfdippcobkbaaaGreatG24
import Derived.Test.YtcfdippcobkbaaaGreatG25
import Derived.Test.YtcfdippcobkbaaaGreatG31
/- The law of layer 15: the chapter's example; what a file is, with its bounds. -/
namespace Go.Proofs.YtcfdippcobkbaaaGreat.Px
open Go.ChangeShapes Go.WideShapes Go.ChangeAt Go.RowKit
open Go.Proofs.YtcfdippcobkbaaaGreat.Le Go.Proofs.YtcfdippcobkbaaaGreat.Tk Go.Proofs.YtcfdippcobkbaaaGreat.Sc Go.Proofs.YtcfdippcobkbaaaGreat.Sr Go.Proofs.YtcfdippcobkbaaaGreat.Ph Go.Proofs.YtcfdippcobkbaaaGreat.Ra
set_option linter.unusedVariables false

theorem dV_gd (s : ByteArray) : L255 (dV s).l ∧ (dV s).l.length ≤ (dV s).w * (dV s).h ∧ (dV s).f < 4 ∧ (dV s).w = (readV s).w ∧ (dV s).h = (readV s).h ∧ (dV s).N ≤ (readN s) + s.size + 7 * ((dV s).w * (dV s).h) := by
  rcases readV_gd s with ⟨k, w, h, m, a, hV, hg⟩ | ⟨f, p, hV, hf, hf4, hp⟩
  · have hv : dV s = ⟨(dz s k m w a (w * h)).f, (dz s k m w a (w * h)).p, w, h, readN s + (dz s k m w a (w * h)).n + w * h, (dz s k m w a (w * h)).l⟩ := by unfold dV; rw [hV]; simp only [if_pos]
    obtain ⟨g1, g2, g3, g4⟩ := dz_gd s k m w a (w * h) hg.le hg.m1
    rw [hv, hV]
    obtain ⟨N, hN⟩ : ∃ N, w * h = N := ⟨_, rfl⟩
    simp only [hN] at g1 g2 g3 g4 ⊢
    exact ⟨g1, g2, by omega, trivial, trivial, by omega⟩
  · have hv : dV s = ⟨f, p, 0, 0, readN s, []⟩ := by unfold dV; rw [hV]; simp [hf]
    rw [hv, hV]
    exact ⟨fun t ht => by simp at ht, by simp, by show f < 4; omega, rfl, rfl, by show readN s ≤ _; omega⟩

set_option maxRecDepth 100000 in
theorem exF_dV : dV exF = ⟨0, 0, 1, 1, readN exF + 1 + 1, [(65, 65, 65)]⟩ := by
  have e : (dz exF 5 255 1 11 (1 * 1)).f = 0 ∧ (dz exF 5 255 1 11 (1 * 1)).l = [(65, 65, 65)] ∧ (dz exF 5 255 1 11 (1 * 1)).n = 1 ∧ (dz exF 5 255 1 11 (1 * 1)).p = 0 := ⟨by kernel_rfl, by kernel_rfl, by kernel_rfl, by kernel_rfl⟩
  unfold dV
  rw [exF_head]
  simp only [if_pos, e.1, e.2.1, e.2.2.1, e.2.2.2]

theorem wide_calls (W : World) : Calls Tryz.prog 26 #[] W fun e w' => e = .returned (.agg #[.int .i64 16384, .int .i64 16384, .int .i64 262144, .int .i64 1048576]) ∧ W.grownBy w' none := by
  go_enter Tryz.func26, Tryz.ntmps26
  go_wp2
  refine bodyPost_ret (v := .agg #[.int .i64 16384, .int .i64 16384, .int .i64 262144, .int .i64 1048576]) (by simp only [results, Tryz.results26]; go_simp) rfl ?_
  exact ⟨rfl, World.grownBy_alloc _ _ _⟩

end Go.Proofs.YtcfdippcobkbaaaGreat.Px

/- The law of layer 15: the chapter's example. -/
namespace Go.Proofs.YtcfdippcobkbaaaGreat.Px
open Go.ChangeShapes Go.WideShapes Go.ChangeAt Go.RowKit
open Go.Proofs.YtcfdippcobkbaaaGreat.Le Go.Proofs.YtcfdippcobkbaaaGreat.Tk Go.Proofs.YtcfdippcobkbaaaGreat.Sc Go.Proofs.YtcfdippcobkbaaaGreat.Sr Go.Proofs.YtcfdippcobkbaaaGreat.Ph Go.Proofs.YtcfdippcobkbaaaGreat.Ra
set_option linter.unusedVariables false

set_option maxRecDepth 100000 in
set_option maxHeartbeats 4000000 in
theorem awake15_calls (W : World) : Calls Tryz.prog 19 #[] W fun e w' => e = .returned (.bool true) ∧ W.grownBy w' none := by
  have HS := Lib.hid (show exF = ⟨#[80, 53, 32, 49, 32, 49, 32, 50, 53, 53, 10, 65]⟩ from rfl)
  have KR := Lib.hid (fun u => run15_calls exF 16384 16384 262144 1048576 u (by decide) (by decide) (by decide) (by decide) (by decide))
  have KW := Lib.hid (fun u => wide_calls u)
  go_enter Tryz.func19, Tryz.ntmps19
  go_wp2_with fail
  refine (KW.out _).mono ?_
  rintro e w0 ⟨rfl, g0⟩
  have G0 := Lib.hid g0
  clear g0
  go_wp2_with fail
  rw [← HS.out]
  refine (KR.out _).mono ?_
  rintro e w1 ⟨img, fault, l, rfl, y, L1, ok1, lim, g1, H⟩
  rw [exF_dV] at H
  rcases H with ⟨_, ⟨g, rfl, hb⟩, rfl, _⟩ | ⟨hz, _⟩ | ⟨hno, _⟩
  · have g2 := gb_trans (World.grownBy_alloc w1 (.cells #[.int .i64 1, .int .i64 1, .slice (some ⟨g, 0, none⟩) 4 4] 32) none) (World.grownBy_alloc _ (.cells #[.int .i64 0, .int .i64 0, .int .i64 0] 34) none)
    have hb2 := blk_al (blk_al hb (.cells #[.int .i64 1, .int .i64 1, .slice (some ⟨g, 0, none⟩) 4 4] 32)) (.cells #[.int .i64 0, .int .i64 0, .int .i64 0] 34)
    have hc := conv_bx (bx_of hb2) 4
    have hsz : (rb [(65, 65, 65)] (1 * 1)).size = 4 := by kernel_rfl
    have hd : rb [(65, 65, 65)] (1 * 1) = ⟨#[65, 65, 65, 255]⟩ := by kernel_rfl
    rw [hsz, hd] at hc
    have G := Lib.hid (gb_trans G0.out (gb_trans g1 g2))
    clear g1 g2 hb hb2 L1 ok1 KR hsz hd lim
    simp only [okF, show ((1 : Nat) : Int) = 1 from rfl, show 4 * (1 * 1) = 4 from rfl]
    go_wp2
    go_ret
    exact ⟨rfl, G.out⟩
  · exact absurd rfl hz
  · exfalso
    have h1 := readN_le exF
    have e1 : (St.new 16384 16384 262144 1048576).w = 16384 ∧ (St.new 16384 16384 262144 1048576).h = 16384 ∧ (St.new 16384 16384 262144 1048576).b = 262144 ∧ (St.new 16384 16384 262144 1048576).s = 1048576 := ⟨by decide, by decide, by decide, by decide⟩
    obtain ⟨e1, e2, e3, e4⟩ := e1
    rw [e1, e2, e3, e4] at hno
    have h2 : exF.size = 12 := rfl
    simp only at hno
    rw [h2] at h1
    omega

end Go.Proofs.YtcfdippcobkbaaaGreat.Px

/- The law of layer 15: any budget, walked (written by wip/gen/bud3.py). -/
namespace Go.Proofs.YtcfdippcobkbaaaGreat.Px
open Go.ChangeShapes Go.WideShapes Go.ChangeAt Go.RowKit
open Go.Proofs.YtcfdippcobkbaaaGreat.Le Go.Proofs.YtcfdippcobkbaaaGreat.Tk Go.Proofs.YtcfdippcobkbaaaGreat.Sc Go.Proofs.YtcfdippcobkbaaaGreat.Sr Go.Proofs.YtcfdippcobkbaaaGreat.Ph Go.Proofs.YtcfdippcobkbaaaGreat.Ra
set_option linter.unusedVariables false

theorem dV_one (s : ByteArray) (h : (dV s).f = 0) : 1 ≤ (dV s).w ∧ 1 ≤ (dV s).h := by
  rcases readV_gd s with ⟨k, w, h', m, a, hV, hg⟩ | ⟨f, p, hV, hf, hf4, hp⟩
  · have e1 : (dV s).w = w ∧ (dV s).h = h' := by unfold dV; rw [hV]; simp only [if_pos]; exact ⟨trivial, trivial⟩
    rw [e1.1, e1.2]
    exact ⟨hg.w1, hg.h1⟩
  · exfalso
    have e1 : (dV s).f = f := by unfold dV; rw [hV]; simp [hf]
    exact hf (e1.symm.trans h)

set_option maxRecDepth 100000 in
set_option maxHeartbeats 8000000 in
theorem buds_any (s : ByteArray) (g0 g1 g2 g3 : Int) (W : World) (hs : s.size ≤ 9223372036854775807) (h0 : g0 ≤ 9223372036854775807) (h1 : g1 ≤ 9223372036854775807) (h3 : g3 ≤ 9223372036854775807) :
    Calls Tryz.prog 7 #[.string s, .agg #[.int .i64 g0, .int .i64 g1, .int .i64 g2, .int .i64 g3]] W fun e w' => e = .returned (.bool true) ∧ W.grownBy w' none := by
  have KAW := Lib.hid (fun u => awake15_calls u)
  by_cases hlen : s.size ≤ 600
  · have dlen : decide ((600 : Int) < (s.size : Int)) = false := decide_eq_false (by omega)
    have KS := fun u => rsides_calls s u (by omega)
    obtain ⟨c1, c2, c3, c4, c5, c6⟩ := dV_gd s
    have cv := dV_one s
    have hn := readN_le s
    rw [← c4, ← c5] at KS
    obtain ⟨gm, hgm⟩ : ∃ gm, min g2 262144 = gm := ⟨_, rfl⟩
    have KR1 := fun u => run15_calls s g0 g1 gm g3 u (by omega) h0 h1 (by omega) h3
    have KR2 := fun u => run15_calls s 16384 16384 262144 1048576 u (by omega) (by decide) (by decide) (by decide) (by decide)
    have KW := Lib.hid (fun u => wide_calls u)
    obtain ⟨v, hv⟩ : ∃ v, dV s = v := ⟨_, rfl⟩
    rw [hv] at c1 c2 c3 c6 cv
    simp only [hv] at KS KR1 KR2
    have KS := Lib.hid KS
    have KR1 := Lib.hid KR1
    have KR2 := Lib.hid KR2
    have HV := Lib.hid (And.intro c1 (And.intro c2 (And.intro c3 (And.intro c6 hn))))
    have HV1 := Lib.hid cv
    have HLEN := Lib.hid hlen
    clear c1 c2 c3 c4 c5 c6 cv hn hv hs h0 h1 h3 hlen
    by_cases hww : 100 < v.w
    · have dw : decide ((100 : Int) < (v.w : Int)) = true := decide_eq_true (by omega)
      go_enter Tryz.func7, Tryz.ntmps7
      go_wp2_with fail
      skip
      have HG0 := Lib.hid (World.grownBy_alloc W (.cells #[.int .i64 g0, .int .i64 g1, .int .i64 gm, .int .i64 g3] 45) none)
      have HB0 := Lib.hid (blk_at (w := W) (o := (.cells #[.int .i64 g0, .int .i64 g1, .int .i64 gm, .int .i64 g3] 45)))
      generalize W.alloc (.cells #[.int .i64 g0, .int .i64 g1, .int .i64 gm, .int .i64 g3] 45) = w0 at HG0 HB0 ⊢
      refine (KS.out _).mono ?_
      rintro e w1 ⟨rfl, g1⟩
      have HG1 := Lib.hid (gb_trans HG0.out g1)
      have HB1 := Lib.hid ((g1.block _ (blk_lt HB0.out) (by simp)).trans HB0.out)
      clear g1 HB0
      go_wp2_with fail
      refine (KAW.out _).mono ?_
      rintro e w9 ⟨rfl, g9⟩
      have G9 := Lib.hid (gb_trans HG1.out g9)
      clear g9
      go_wp2
      go_ret
      exact ⟨rfl, G9.out⟩
    · have dw : decide ((100 : Int) < (v.w : Int)) = false := decide_eq_false (by omega)
      by_cases hhh : 100 < v.h
      · have dh : decide ((100 : Int) < (v.h : Int)) = true := decide_eq_true (by omega)
        go_enter Tryz.func7, Tryz.ntmps7
        go_wp2_with fail
        skip
        have HG0 := Lib.hid (World.grownBy_alloc W (.cells #[.int .i64 g0, .int .i64 g1, .int .i64 gm, .int .i64 g3] 45) none)
        have HB0 := Lib.hid (blk_at (w := W) (o := (.cells #[.int .i64 g0, .int .i64 g1, .int .i64 gm, .int .i64 g3] 45)))
        generalize W.alloc (.cells #[.int .i64 g0, .int .i64 g1, .int .i64 gm, .int .i64 g3] 45) = w0 at HG0 HB0 ⊢
        refine (KS.out _).mono ?_
        rintro e w1 ⟨rfl, g1⟩
        have HG1 := Lib.hid (gb_trans HG0.out g1)
        have HB1 := Lib.hid ((g1.block _ (blk_lt HB0.out) (by simp)).trans HB0.out)
        clear g1 HB0
        go_wp2_with fail
        refine (KAW.out _).mono ?_
        rintro e w9 ⟨rfl, g9⟩
        have G9 := Lib.hid (gb_trans HG1.out g9)
        clear g9
        go_wp2
        go_ret
        exact ⟨rfl, G9.out⟩
      · have dh : decide ((100 : Int) < (v.h : Int)) = false := decide_eq_false (by omega)
        have HWH := Lib.hid (And.intro hww hhh)
        clear hww hhh
        go_enter Tryz.func7, Tryz.ntmps7
        go_wp2_with fail
        skip
        have HG0 := Lib.hid (World.grownBy_alloc W (.cells #[.int .i64 g0, .int .i64 g1, .int .i64 gm, .int .i64 g3] 45) none)
        have HB0 := Lib.hid (blk_at (w := W) (o := (.cells #[.int .i64 g0, .int .i64 g1, .int .i64 gm, .int .i64 g3] 45)))
        generalize W.alloc (.cells #[.int .i64 g0, .int .i64 g1, .int .i64 gm, .int .i64 g3] 45) = w0 at HG0 HB0 ⊢
        refine (KS.out _).mono ?_
        rintro e w1 ⟨rfl, g1⟩
        have HG1 := Lib.hid (gb_trans HG0.out g1)
        have HB1 := Lib.hid ((g1.block _ (blk_lt HB0.out) (by simp)).trans HB0.out)
        clear g1 HB0
        have BB1 := HB1.out
        have b10 := blk_cell BB1 0
        have b11 := blk_cell BB1 1
        have b12 := blk_cell BB1 2
        have b13 := blk_cell BB1 3
        simp only [List.getElem?_toArray, List.getElem?_cons_succ, List.getElem?_cons_zero] at b10 b11 b12 b13
        go_wp2_with fail
        refine (KR1.out w1).mono ?_
        rintro e w3 ⟨img, fault, l, rfl, y, L, yok, lim, gg3, ⟨z0, ⟨g, rfl, hb⟩, rfl, hby, hr, hw, hh⟩ | ⟨z0, rfl, rfl, hr, hby⟩ | ⟨hno, rfl, ⟨q, hq, rfl⟩, hr, hby⟩⟩
        · simp only [okF]
          have gg4 := gb_trans (World.grownBy_alloc w3 (.cells #[.int .i64 v.w, .int .i64 v.h, .slice (some ⟨g, 0, none⟩) (4 * (v.w * v.h)) (4 * (v.w * v.h))] 32) none) (World.grownBy_alloc _ (.cells #[.int .i64 0, .int .i64 0, .int .i64 0] 34) none)
          have I4 : ((w3.alloc (.cells #[.int .i64 v.w, .int .i64 v.h, .slice (some ⟨g, 0, none⟩) (4 * (v.w * v.h)) (4 * (v.w * v.h))] 32)).alloc (.cells #[.int .i64 0, .int .i64 0, .int .i64 0] 34)).heap[w3.heap.size]? = some (.cells #[.int .i64 v.w, .int .i64 v.h, .slice (some ⟨g, 0, none⟩) (4 * (v.w * v.h)) (4 * (v.w * v.h))] 32 (0, 0)) := blk_al blk_at _
          have F4 : Fl (w3.heap.size + 1) 0 0 0 ((w3.alloc (.cells #[.int .i64 v.w, .int .i64 v.h, .slice (some ⟨g, 0, none⟩) (4 * (v.w * v.h)) (4 * (v.w * v.h))] 32)).alloc (.cells #[.int .i64 0, .int .i64 0, .int .i64 0] 34)) := by
            rw [← size_alloc w3 (.cells #[.int .i64 v.w, .int .i64 v.h, .slice (some ⟨g, 0, none⟩) (4 * (v.w * v.h)) (4 * (v.w * v.h))] 32)]
            exact blk_at
          have p40 := F4.c0
          have p41 := F4.c1
          have p42 := F4.c2
          have i40 := blk_cell I4 0
          have i41 := blk_cell I4 1
          have i42 := blk_cell I4 2
          simp only [List.getElem?_toArray, List.getElem?_cons_succ, List.getElem?_cons_zero] at i40 i41 i42
          have dlt4 := F4.lt
          have BB4 := ((gb_trans gg3 gg4).block _ (blk_lt HB1.out) (by simp)).trans HB1.out
          have b40 := blk_cell BB4 0
          have b41 := blk_cell BB4 1
          have b42 := blk_cell BB4 2
          have b43 := blk_cell BB4 3
          simp only [List.getElem?_toArray, List.getElem?_cons_succ, List.getElem?_cons_zero] at b40 b41 b42 b43
          have hpk : y.pk ≤ pos gm := by
            have e1 := yok.pb
            rw [lim.b] at e1
            exact e1
          have hst : y.st ≤ pos g3 := by
            have e1 := yok.ts
            rw [lim.s] at e1
            exact e1
          have hp1 : pos gm ≤ max gm 0 := by unfold pos; split <;> omega
          have hp2 : pos g3 ≤ max g3 0 := by unfold pos; split <;> omega
          have dpk : decide (max gm 0 < y.pk) = false := decide_eq_false (by omega)
          have dst : decide (max g3 0 < y.st) = false := decide_eq_false (by omega)
          have KS1 : ∀ u, Led l y.ls u → Calls Tryz.prog 14 #[.pointer (some ⟨l, 0, none⟩)] u fun e w' => e = .returned (.int .i64 y.st) ∧ u = w' := fun u L => steps_calls l y.ls u L
          have KP1 : ∀ u, Led l y.ls u → Calls Tryz.prog 23 #[.pointer (some ⟨l, 0, none⟩)] u fun e w' => e = .returned (.int .i64 y.pk) ∧ u = w' := fun u L => peak_calls l y.ls u L
          have HKS := Lib.hid KS1
          have HKP := Lib.hid KP1
          have HL4 := Lib.hid (L.grown gg4 (by simp))
          have HG4 := Lib.hid (gb_trans (gb_trans HG1.out gg3) gg4)
          have HI4 := Lib.hid I4
          have HF4 := Lib.hid F4
          have HB4 := Lib.hid BB4
          have HX4 := Lib.hid ((bx_of hb).grown gg4)
          have hv1 := HV1.out z0
          have dlw : decide ((v.w : Int) ≤ g0) = true := decide_eq_true (by
            have e1 : (v.w : Int) ≤ pos g0 := hw
            unfold pos at e1
            split at e1 <;> omega)
          have dlh : decide ((v.h : Int) ≤ g1) = true := decide_eq_true (by
            have e1 : (v.h : Int) ≤ pos g1 := hh
            unfold pos at e1
            split at e1 <;> omega)
          clear hb hv1 hw hh
          clear L gg4 I4 F4 BB4 gg3 HB1 HG1 KS1 KP1 yok lim hpk hst hp1 hp2 b10 b11 b12 b13 BB1
          go_wp2_with fail
          generalize ((w3.alloc (.cells #[.int .i64 v.w, .int .i64 v.h, .slice (some ⟨g, 0, none⟩) (4 * (v.w * v.h)) (4 * (v.w * v.h))] 32)).alloc (.cells #[.int .i64 0, .int .i64 0, .int .i64 0] 34)) = w4 at HL4 HG4 HI4 HF4 HB4 p40 p41 p42 i40 i41 i42 dlt4 HX4 b40 b41 b42 b43 ⊢
          go_region_held3 (fun w' => w'.cell? ⟨w3.heap.size, 0, none⟩ = some (.int .i64 v.w) ∧ w'.cell? ⟨w3.heap.size, 1, none⟩ = some (.int .i64 v.h) ∧ w'.cell? ⟨w3.heap.size, 2, none⟩ = some (.slice (some ⟨g, 0, none⟩) (4 * (v.w * v.h)) (4 * (v.w * v.h))) ∧ w'.cell? ⟨w3.heap.size + 1, 0, none⟩ = some (.int .i64 0) ∧ w'.cell? ⟨w3.heap.size + 1, 1, none⟩ = some (.int .i64 0) ∧ w'.cell? ⟨w3.heap.size + 1, 2, none⟩ = some (.int .i64 0) ∧ w'.cell? ⟨W.heap.size, 0, none⟩ = some (.int .i64 g0) ∧ w'.cell? ⟨W.heap.size, 1, none⟩ = some (.int .i64 g1) ∧ w'.cell? ⟨W.heap.size, 2, none⟩ = some (.int .i64 gm) ∧ w'.cell? ⟨W.heap.size, 3, none⟩ = some (.int .i64 g3)) (go_keep)
            (first
              | (go_at_call 23; refine (HKP.out _ HL4.out.drew).mono ?_; rintro e w' ⟨rfl, rfl⟩)
              | (go_at_call 14; refine (HKS.out _ HL4.out.drew).mono ?_; rintro e w' ⟨rfl, rfl⟩))
          all_goals
            go_wp2_with fail
            refine (KW.out _).mono ?_
            rintro e w10 ⟨rfl, g10⟩
            have GA := gb_trans (gb_drew w4 none) g10
            have HGA := Lib.hid GA
            clear g10 GA p40 p41 p42 i40 i41 i42 b40 b41 b42 b43
            go_wp2_with fail
            refine (KR2.out _).mono ?_
            rintro e w5 ⟨img2, fault2, l2, rfl, y2, L2, ok2, lim2, g5, H2⟩
            have e1 : (St.new 16384 16384 262144 1048576).w = 16384 ∧ (St.new 16384 16384 262144 1048576).h = 16384 ∧ (St.new 16384 16384 262144 1048576).b = 262144 ∧ (St.new 16384 16384 262144 1048576).s = 1048576 := ⟨by decide, by decide, by decide, by decide⟩
            rw [e1.1, e1.2.1, e1.2.2.1, e1.2.2.2] at H2
            clear L2 ok2 lim2 e1
            rcases H2 with ⟨z1, ⟨gb, rfl, hb2⟩, rfl, _⟩ | ⟨z1, rfl, rfl, _⟩ | ⟨hno, _⟩
            · simp only [okF]
              have gg6 := gb_trans (World.grownBy_alloc w5 (.cells #[.int .i64 v.w, .int .i64 v.h, .slice (some ⟨gb, 0, none⟩) (4 * (v.w * v.h)) (4 * (v.w * v.h))] 32) none) (World.grownBy_alloc _ (.cells #[.int .i64 0, .int .i64 0, .int .i64 0] 34) none)
              have I6 : ((w5.alloc (.cells #[.int .i64 v.w, .int .i64 v.h, .slice (some ⟨gb, 0, none⟩) (4 * (v.w * v.h)) (4 * (v.w * v.h))] 32)).alloc (.cells #[.int .i64 0, .int .i64 0, .int .i64 0] 34)).heap[w5.heap.size]? = some (.cells #[.int .i64 v.w, .int .i64 v.h, .slice (some ⟨gb, 0, none⟩) (4 * (v.w * v.h)) (4 * (v.w * v.h))] 32 (0, 0)) := blk_al blk_at _
              have F6 : Fl (w5.heap.size + 1) 0 0 0 ((w5.alloc (.cells #[.int .i64 v.w, .int .i64 v.h, .slice (some ⟨gb, 0, none⟩) (4 * (v.w * v.h)) (4 * (v.w * v.h))] 32)).alloc (.cells #[.int .i64 0, .int .i64 0, .int .i64 0] 34)) := by
                rw [← size_alloc w5 (.cells #[.int .i64 v.w, .int .i64 v.h, .slice (some ⟨gb, 0, none⟩) (4 * (v.w * v.h)) (4 * (v.w * v.h))] 32)]
                exact blk_at
              have p60 := F6.c0
              have p61 := F6.c1
              have p62 := F6.c2
              have i60 := blk_cell I6 0
              have i61 := blk_cell I6 1
              have i62 := blk_cell I6 2
              simp only [List.getElem?_toArray, List.getElem?_cons_succ, List.getElem?_cons_zero] at i60 i61 i62
              have dlt6 := F6.lt
              have GT := gb_trans (gb_trans HGA.out g5) gg6
              have I5 := (GT.block _ (blk_lt HI4.out) (by simp)).trans HI4.out
              have F5 : Fl (w3.heap.size + 1) 0 0 0 _ := (GT.block _ HF4.out.lt (by simp)).trans HF4.out
              have p50 := F5.c0
              have p51 := F5.c1
              have p52 := F5.c2
              have i50 := blk_cell I5 0
              have i51 := blk_cell I5 1
              have i52 := blk_cell I5 2
              simp only [List.getElem?_toArray, List.getElem?_cons_succ, List.getElem?_cons_zero] at i50 i51 i52
              have dlt5 := F5.lt
              have BB6 := (GT.block _ (blk_lt HB4.out) (by simp)).trans HB4.out
              have b60 := blk_cell BB6 0
              have b61 := blk_cell BB6 1
              have b62 := blk_cell BB6 2
              have b63 := blk_cell BB6 3
              simp only [List.getElem?_toArray, List.getElem?_cons_succ, List.getElem?_cons_zero] at b60 b61 b62 b63
              have HG6 := Lib.hid (gb_trans HG4.out GT)
              have HX6 := Lib.hid ((bx_of hb2).grown gg6)
              have HX5 := Lib.hid (HX4.out.grown GT)
              have hszS : (rb v.l (v.w * v.h)).size = 4 * (v.w * v.h) := rb_size v.l (v.w * v.h) HV.out.2.1
              obtain ⟨S, hS⟩ : ∃ S : ByteArray, rb v.l (v.w * v.h) = S := ⟨_, rfl⟩
              rw [hS] at hszS HX6 HX5
              have KSM := fun u (h1 : Bx (some ⟨g, 0, none⟩) S u) (h2 : Bx (some ⟨gb, 0, none⟩) S u) => rsame_calls (v.w : Int) (v.h : Int) (v.w : Int) (v.h : Int) (some ⟨g, 0, none⟩) (some ⟨gb, 0, none⟩) (4 * (v.w * v.h)) (4 * (v.w * v.h)) S S u h1 h2
              simp only [sameB_self, hszS] at KSM
              have HKSM := Lib.hid KSM
              clear KSM hb2 hszS hS
              have HI5 := Lib.hid I5
              have HF5 := Lib.hid F5
              have HB6 := Lib.hid BB6
              clear gg6 I6 F6 I5 F5 g5 GT BB6 HL4 HI4 HF4 HB4 KR2 HKS HKP
              go_wp2_with fail
              refine (HKSM.out _ HX5.out HX6.out).mono ?_
              rintro e w8 ⟨rfl, g8⟩
              have G8 := Lib.hid (gb_trans HG6.out g8)
              have I8 := (g8.block _ (blk_lt HI5.out) (by simp)).trans HI5.out
              have F8 : Fl (w3.heap.size + 1) 0 0 0 _ := (g8.block _ HF5.out.lt (by simp)).trans HF5.out
              clear p50 p51 p52 i50 i51 i52 b60 b61 b62 b63
              have p80 := F8.c0
              have p81 := F8.c1
              have p82 := F8.c2
              have i80 := blk_cell I8 0
              have i81 := blk_cell I8 1
              have i82 := blk_cell I8 2
              simp only [List.getElem?_toArray, List.getElem?_cons_succ, List.getElem?_cons_zero] at i80 i81 i82
              have dlt8 := F8.lt
              have BB8 := (g8.block _ (blk_lt HB6.out) (by simp)).trans HB6.out
              have b80 := blk_cell BB8 0
              have b81 := blk_cell BB8 1
              have b82 := blk_cell BB8 2
              have b83 := blk_cell BB8 3
              simp only [List.getElem?_toArray, List.getElem?_cons_succ, List.getElem?_cons_zero] at b80 b81 b82 b83
              clear I8 F8 BB8 g8 HI5 HF5 HB6
              go_wp2_with fail
              refine (KAW.out _).mono ?_
              rintro e w9 ⟨rfl, g9⟩
              have G9 := Lib.hid (gb_trans G8.out g9)
              clear g9
              go_wp2
              go_ret
              exact ⟨rfl, G9.out⟩
            · exact absurd z0 z1
            · exfalso
              obtain ⟨_, _, _, h1, h2⟩ := HV.out
              have h3 := HLEN.out
              have h4 := HWH.out
              have h5 : v.w * v.h ≤ 100 * 100 := Nat.mul_le_mul (by omega) (by omega)
              omega
        · simp only [img0, flV]
          have gg4 := gb_trans (World.grownBy_alloc w3 (.cells #[.int .i64 0, .int .i64 0, .slice none 0 0] 32) none) (World.grownBy_alloc _ (.cells #[.int .i64 v.f, .int .i64 3, .int .i64 v.p] 34) none)
          have I4 : ((w3.alloc (.cells #[.int .i64 0, .int .i64 0, .slice none 0 0] 32)).alloc (.cells #[.int .i64 v.f, .int .i64 3, .int .i64 v.p] 34)).heap[w3.heap.size]? = some (.cells #[.int .i64 0, .int .i64 0, .slice none 0 0] 32 (0, 0)) := blk_al blk_at _
          have F4 : Fl (w3.heap.size + 1) v.f 3 v.p ((w3.alloc (.cells #[.int .i64 0, .int .i64 0, .slice none 0 0] 32)).alloc (.cells #[.int .i64 v.f, .int .i64 3, .int .i64 v.p] 34)) := by
            rw [← size_alloc w3 (.cells #[.int .i64 0, .int .i64 0, .slice none 0 0] 32)]
            exact blk_at
          have p40 := F4.c0
          have p41 := F4.c1
          have p42 := F4.c2
          have i40 := blk_cell I4 0
          have i41 := blk_cell I4 1
          have i42 := blk_cell I4 2
          simp only [List.getElem?_toArray, List.getElem?_cons_succ, List.getElem?_cons_zero] at i40 i41 i42
          have dlt4 := F4.lt
          have BB4 := ((gb_trans gg3 gg4).block _ (blk_lt HB1.out) (by simp)).trans HB1.out
          have b40 := blk_cell BB4 0
          have b41 := blk_cell BB4 1
          have b42 := blk_cell BB4 2
          have b43 := blk_cell BB4 3
          simp only [List.getElem?_toArray, List.getElem?_cons_succ, List.getElem?_cons_zero] at b40 b41 b42 b43
          have hpk : y.pk ≤ pos gm := by
            have e1 := yok.pb
            rw [lim.b] at e1
            exact e1
          have hst : y.st ≤ pos g3 := by
            have e1 := yok.ts
            rw [lim.s] at e1
            exact e1
          have hp1 : pos gm ≤ max gm 0 := by unfold pos; split <;> omega
          have hp2 : pos g3 ≤ max g3 0 := by unfold pos; split <;> omega
          have dpk : decide (max gm 0 < y.pk) = false := decide_eq_false (by omega)
          have dst : decide (max g3 0 < y.st) = false := decide_eq_false (by omega)
          have KS1 : ∀ u, Led l y.ls u → Calls Tryz.prog 14 #[.pointer (some ⟨l, 0, none⟩)] u fun e w' => e = .returned (.int .i64 y.st) ∧ u = w' := fun u L => steps_calls l y.ls u L
          have KP1 : ∀ u, Led l y.ls u → Calls Tryz.prog 23 #[.pointer (some ⟨l, 0, none⟩)] u fun e w' => e = .returned (.int .i64 y.pk) ∧ u = w' := fun u L => peak_calls l y.ls u L
          have HKS := Lib.hid KS1
          have HKP := Lib.hid KP1
          have HL4 := Lib.hid (L.grown gg4 (by simp))
          have HG4 := Lib.hid (gb_trans (gb_trans HG1.out gg3) gg4)
          have HI4 := Lib.hid I4
          have HF4 := Lib.hid F4
          have HB4 := Lib.hid BB4
          have hz4 : v.f ≠ 4 := by
            have := HV.out.2.2.1
            omega
          have d4 : ((v.f : Int) == 4) = false := by rw [beq_eq_false_iff_ne]; omega
          have d5 : ((v.f : Int) != 0) = true := by rw [bne_iff_ne]; omega
          have d6 : ((v.f : Int) == 0) = false := by rw [beq_eq_false_iff_ne]; omega
          clear L gg4 I4 F4 BB4 gg3 HB1 HG1 KS1 KP1 yok lim hpk hst hp1 hp2 b10 b11 b12 b13 BB1
          go_wp2_with fail
          generalize ((w3.alloc (.cells #[.int .i64 0, .int .i64 0, .slice none 0 0] 32)).alloc (.cells #[.int .i64 v.f, .int .i64 3, .int .i64 v.p] 34)) = w4 at HL4 HG4 HI4 HF4 HB4 p40 p41 p42 i40 i41 i42 dlt4 b40 b41 b42 b43 ⊢
          go_region_held3 (fun w' => w'.cell? ⟨w3.heap.size, 0, none⟩ = some (.int .i64 0) ∧ w'.cell? ⟨w3.heap.size, 1, none⟩ = some (.int .i64 0) ∧ w'.cell? ⟨w3.heap.size, 2, none⟩ = some (.slice none 0 0) ∧ w'.cell? ⟨w3.heap.size + 1, 0, none⟩ = some (.int .i64 v.f) ∧ w'.cell? ⟨w3.heap.size + 1, 1, none⟩ = some (.int .i64 3) ∧ w'.cell? ⟨w3.heap.size + 1, 2, none⟩ = some (.int .i64 v.p) ∧ w'.cell? ⟨W.heap.size, 0, none⟩ = some (.int .i64 g0) ∧ w'.cell? ⟨W.heap.size, 1, none⟩ = some (.int .i64 g1) ∧ w'.cell? ⟨W.heap.size, 2, none⟩ = some (.int .i64 gm) ∧ w'.cell? ⟨W.heap.size, 3, none⟩ = some (.int .i64 g3)) (go_keep)
            (first
              | (go_at_call 23; refine (HKP.out _ HL4.out.drew).mono ?_; rintro e w' ⟨rfl, rfl⟩)
              | (go_at_call 14; refine (HKS.out _ HL4.out.drew).mono ?_; rintro e w' ⟨rfl, rfl⟩))
          all_goals
            go_wp2_with fail
            refine (KW.out _).mono ?_
            rintro e w10 ⟨rfl, g10⟩
            have GA := gb_trans (gb_drew w4 none) g10
            have HGA := Lib.hid GA
            clear g10 GA p40 p41 p42 i40 i41 i42 b40 b41 b42 b43
            go_wp2_with fail
            refine (KR2.out _).mono ?_
            rintro e w5 ⟨img2, fault2, l2, rfl, y2, L2, ok2, lim2, g5, H2⟩
            have e1 : (St.new 16384 16384 262144 1048576).w = 16384 ∧ (St.new 16384 16384 262144 1048576).h = 16384 ∧ (St.new 16384 16384 262144 1048576).b = 262144 ∧ (St.new 16384 16384 262144 1048576).s = 1048576 := ⟨by decide, by decide, by decide, by decide⟩
            rw [e1.1, e1.2.1, e1.2.2.1, e1.2.2.2] at H2
            clear L2 ok2 lim2 e1
            rcases H2 with ⟨z1, ⟨gb, rfl, hb2⟩, rfl, _⟩ | ⟨z1, rfl, rfl, _⟩ | ⟨hno, _⟩
            · exact absurd z1 z0
            · simp only [img0, flV]
              have gg6 := gb_trans (World.grownBy_alloc w5 (.cells #[.int .i64 0, .int .i64 0, .slice none 0 0] 32) none) (World.grownBy_alloc _ (.cells #[.int .i64 v.f, .int .i64 3, .int .i64 v.p] 34) none)
              have I6 : ((w5.alloc (.cells #[.int .i64 0, .int .i64 0, .slice none 0 0] 32)).alloc (.cells #[.int .i64 v.f, .int .i64 3, .int .i64 v.p] 34)).heap[w5.heap.size]? = some (.cells #[.int .i64 0, .int .i64 0, .slice none 0 0] 32 (0, 0)) := blk_al blk_at _
              have F6 : Fl (w5.heap.size + 1) v.f 3 v.p ((w5.alloc (.cells #[.int .i64 0, .int .i64 0, .slice none 0 0] 32)).alloc (.cells #[.int .i64 v.f, .int .i64 3, .int .i64 v.p] 34)) := by
                rw [← size_alloc w5 (.cells #[.int .i64 0, .int .i64 0, .slice none 0 0] 32)]
                exact blk_at
              have p60 := F6.c0
              have p61 := F6.c1
              have p62 := F6.c2
              have i60 := blk_cell I6 0
              have i61 := blk_cell I6 1
              have i62 := blk_cell I6 2
              simp only [List.getElem?_toArray, List.getElem?_cons_succ, List.getElem?_cons_zero] at i60 i61 i62
              have dlt6 := F6.lt
              have GT := gb_trans (gb_trans HGA.out g5) gg6
              have I5 := (GT.block _ (blk_lt HI4.out) (by simp)).trans HI4.out
              have F5 : Fl (w3.heap.size + 1) v.f 3 v.p _ := (GT.block _ HF4.out.lt (by simp)).trans HF4.out
              have p50 := F5.c0
              have p51 := F5.c1
              have p52 := F5.c2
              have i50 := blk_cell I5 0
              have i51 := blk_cell I5 1
              have i52 := blk_cell I5 2
              simp only [List.getElem?_toArray, List.getElem?_cons_succ, List.getElem?_cons_zero] at i50 i51 i52
              have dlt5 := F5.lt
              have BB6 := (GT.block _ (blk_lt HB4.out) (by simp)).trans HB4.out
              have b60 := blk_cell BB6 0
              have b61 := blk_cell BB6 1
              have b62 := blk_cell BB6 2
              have b63 := blk_cell BB6 3
              simp only [List.getElem?_toArray, List.getElem?_cons_succ, List.getElem?_cons_zero] at b60 b61 b62 b63
              have HG6 := Lib.hid (gb_trans HG4.out GT)
              have KSM := fun u => rsame_calls 0 0 0 0 none none 0 0 ByteArray.empty ByteArray.empty u (.inl rfl) (.inl rfl)
              simp only [sameB_self, show ByteArray.empty.size = 0 from rfl] at KSM
              have HKSM := Lib.hid KSM
              clear KSM
              have HI5 := Lib.hid I5
              have HF5 := Lib.hid F5
              have HB6 := Lib.hid BB6
              clear gg6 I6 F6 I5 F5 g5 GT BB6 HL4 HI4 HF4 HB4 KR2 HKS HKP
              go_wp2_with fail
              refine (HKSM.out _).mono ?_
              rintro e w8 ⟨rfl, g8⟩
              have G8 := Lib.hid (gb_trans HG6.out g8)
              have I8 := (g8.block _ (blk_lt HI5.out) (by simp)).trans HI5.out
              have F8 : Fl (w3.heap.size + 1) v.f 3 v.p _ := (g8.block _ HF5.out.lt (by simp)).trans HF5.out
              clear p50 p51 p52 i50 i51 i52 b60 b61 b62 b63
              have p80 := F8.c0
              have p81 := F8.c1
              have p82 := F8.c2
              have i80 := blk_cell I8 0
              have i81 := blk_cell I8 1
              have i82 := blk_cell I8 2
              simp only [List.getElem?_toArray, List.getElem?_cons_succ, List.getElem?_cons_zero] at i80 i81 i82
              have dlt8 := F8.lt
              have BB8 := (g8.block _ (blk_lt HB6.out) (by simp)).trans HB6.out
              have b80 := blk_cell BB8 0
              have b81 := blk_cell BB8 1
              have b82 := blk_cell BB8 2
              have b83 := blk_cell BB8 3
              simp only [List.getElem?_toArray, List.getElem?_cons_succ, List.getElem?_cons_zero] at b80 b81 b82 b83
              clear I8 F8 BB8 g8 HI5 HF5 HB6
              go_wp2_with fail
              refine (KAW.out _).mono ?_
              rintro e w9 ⟨rfl, g9⟩
              have G9 := Lib.hid (gb_trans G8.out g9)
              clear g9
              go_wp2
              go_ret
              exact ⟨rfl, G9.out⟩
            · exfalso
              obtain ⟨_, _, _, h1, h2⟩ := HV.out
              have h3 := HLEN.out
              have h4 := HWH.out
              have h5 : v.w * v.h ≤ 100 * 100 := Nat.mul_le_mul (by omega) (by omega)
              omega
        · simp only [img0, flV]
          have gg4 := gb_trans (World.grownBy_alloc w3 (.cells #[.int .i64 0, .int .i64 0, .slice none 0 0] 32) none) (World.grownBy_alloc _ (.cells #[.int .i64 4, .int .i64 3, .int .i64 q] 34) none)
          have I4 : ((w3.alloc (.cells #[.int .i64 0, .int .i64 0, .slice none 0 0] 32)).alloc (.cells #[.int .i64 4, .int .i64 3, .int .i64 q] 34)).heap[w3.heap.size]? = some (.cells #[.int .i64 0, .int .i64 0, .slice none 0 0] 32 (0, 0)) := blk_al blk_at _
          have F4 : Fl (w3.heap.size + 1) 4 3 q ((w3.alloc (.cells #[.int .i64 0, .int .i64 0, .slice none 0 0] 32)).alloc (.cells #[.int .i64 4, .int .i64 3, .int .i64 q] 34)) := by
            rw [← size_alloc w3 (.cells #[.int .i64 0, .int .i64 0, .slice none 0 0] 32)]
            exact blk_at
          have p40 := F4.c0
          have p41 := F4.c1
          have p42 := F4.c2
          have i40 := blk_cell I4 0
          have i41 := blk_cell I4 1
          have i42 := blk_cell I4 2
          simp only [List.getElem?_toArray, List.getElem?_cons_succ, List.getElem?_cons_zero] at i40 i41 i42
          have dlt4 := F4.lt
          have BB4 := ((gb_trans gg3 gg4).block _ (blk_lt HB1.out) (by simp)).trans HB1.out
          have b40 := blk_cell BB4 0
          have b41 := blk_cell BB4 1
          have b42 := blk_cell BB4 2
          have b43 := blk_cell BB4 3
          simp only [List.getElem?_toArray, List.getElem?_cons_succ, List.getElem?_cons_zero] at b40 b41 b42 b43
          have hpk : y.pk ≤ pos gm := by
            have e1 := yok.pb
            rw [lim.b] at e1
            exact e1
          have hst : y.st ≤ pos g3 := by
            have e1 := yok.ts
            rw [lim.s] at e1
            exact e1
          have hp1 : pos gm ≤ max gm 0 := by unfold pos; split <;> omega
          have hp2 : pos g3 ≤ max g3 0 := by unfold pos; split <;> omega
          have dpk : decide (max gm 0 < y.pk) = false := decide_eq_false (by omega)
          have dst : decide (max g3 0 < y.st) = false := decide_eq_false (by omega)
          have KS1 : ∀ u, Led l y.ls u → Calls Tryz.prog 14 #[.pointer (some ⟨l, 0, none⟩)] u fun e w' => e = .returned (.int .i64 y.st) ∧ u = w' := fun u L => steps_calls l y.ls u L
          have KP1 : ∀ u, Led l y.ls u → Calls Tryz.prog 23 #[.pointer (some ⟨l, 0, none⟩)] u fun e w' => e = .returned (.int .i64 y.pk) ∧ u = w' := fun u L => peak_calls l y.ls u L
          have HKS := Lib.hid KS1
          have HKP := Lib.hid KP1
          have HL4 := Lib.hid (L.grown gg4 (by simp))
          have HG4 := Lib.hid (gb_trans (gb_trans HG1.out gg3) gg4)
          have HI4 := Lib.hid I4
          have HF4 := Lib.hid F4
          have HB4 := Lib.hid BB4
          have d2 : decide ((0 : Int) ≤ (q : Int)) = true := decide_eq_true (by omega)
          have d3 : decide ((q : Int) ≤ (s.size : Int)) = true := decide_eq_true (by omega)
          have KB : ∀ u, Led l y.ls u → Calls Tryz.prog 15 #[.pointer (some ⟨l, 0, none⟩)] u fun e w' => e = .returned (.bool true) ∧ u = w' := fun u L => (broken_calls l y.ls u L).mono (fun e w' ⟨he, hw⟩ => ⟨by rw [he]; unfold St.ls; simp [hr], hw⟩)
          have KY : ∀ u, Led l y.ls u → Calls Tryz.prog 24 #[.pointer (some ⟨l, 0, none⟩)] u fun e w' => e = .returned (.int .i64 0) ∧ u = w' := fun u L => (bytes_calls l y.ls u L).mono (fun e w' ⟨he, hw⟩ => ⟨by rw [he]; exact congrArg (fun t => Ending.returned (.int .i64 t)) hby, hw⟩)
          have KSA := fun u => same_calls' 0 0 0 0 none none 0 0 ByteArray.empty ByteArray.empty u (.inl rfl) (.inl rfl)
          simp only [sameB_self, show ByteArray.empty.size = 0 from rfl] at KSA
          have HKSA := Lib.hid KSA
          have HKY := Lib.hid KY
          have HKB := Lib.hid KB
          clear KB KY KSA
          clear L gg4 I4 F4 BB4 gg3 HB1 HG1 KS1 KP1 yok lim hpk hst hp1 hp2 b10 b11 b12 b13 BB1
          go_wp2_with fail
          generalize ((w3.alloc (.cells #[.int .i64 0, .int .i64 0, .slice none 0 0] 32)).alloc (.cells #[.int .i64 4, .int .i64 3, .int .i64 q] 34)) = w4 at HL4 HG4 HI4 HF4 HB4 p40 p41 p42 i40 i41 i42 dlt4 b40 b41 b42 b43 ⊢
          go_region_held3 (fun w' => w'.cell? ⟨w3.heap.size, 0, none⟩ = some (.int .i64 0) ∧ w'.cell? ⟨w3.heap.size, 1, none⟩ = some (.int .i64 0) ∧ w'.cell? ⟨w3.heap.size, 2, none⟩ = some (.slice none 0 0) ∧ w'.cell? ⟨w3.heap.size + 1, 0, none⟩ = some (.int .i64 4) ∧ w'.cell? ⟨w3.heap.size + 1, 1, none⟩ = some (.int .i64 3) ∧ w'.cell? ⟨w3.heap.size + 1, 2, none⟩ = some (.int .i64 q) ∧ w'.cell? ⟨W.heap.size, 0, none⟩ = some (.int .i64 g0) ∧ w'.cell? ⟨W.heap.size, 1, none⟩ = some (.int .i64 g1) ∧ w'.cell? ⟨W.heap.size, 2, none⟩ = some (.int .i64 gm) ∧ w'.cell? ⟨W.heap.size, 3, none⟩ = some (.int .i64 g3)) (go_keep)
            (first
              | (go_at_call 23; refine (HKP.out _ HL4.out.drew).mono ?_; rintro e w' ⟨rfl, rfl⟩)
              | (go_at_call 14; refine (HKS.out _ HL4.out.drew).mono ?_; rintro e w' ⟨rfl, rfl⟩))
          all_goals
            go_wp2_with fail
            refine (HKB.out _ HL4.out.drew).mono ?_
            rintro e w' ⟨rfl, rfl⟩
            go_wp2_with fail
            refine (HKY.out _ HL4.out.drew).mono ?_
            rintro e w' ⟨rfl, rfl⟩
            go_wp2_with fail
            refine (HKSA.out _).mono ?_
            rintro e w8 ⟨rfl, g8⟩
            have G8 := Lib.hid (gb_trans HG4.out (gb_trans (gb_drew w4 none) g8))
            clear g8
            go_wp2_with fail
            refine (KAW.out _).mono ?_
            rintro e w9 ⟨rfl, g9⟩
            have G9 := Lib.hid (gb_trans G8.out g9)
            clear g9
            go_wp2
            go_ret
            exact ⟨rfl, G9.out⟩
  · have dlen : decide ((600 : Int) < (s.size : Int)) = true := decide_eq_true (by omega)
    clear hs
    go_enter Tryz.func7, Tryz.ntmps7
    go_wp2_with fail
    refine (KAW.out _).mono ?_
    rintro e w9 ⟨rfl, g9⟩
    have G9 := Lib.hid (gb_trans (World.grownBy_alloc W (.cells #[.int .i64 g0, .int .i64 g1, .int .i64 g2, .int .i64 g3] 45) none) g9)
    clear g9
    go_wp2
    go_ret
    exact ⟨rfl, G9.out⟩

end Go.Proofs.YtcfdippcobkbaaaGreat.Px
