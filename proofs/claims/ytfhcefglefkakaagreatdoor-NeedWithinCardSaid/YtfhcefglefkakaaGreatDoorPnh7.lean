/- Package pnmhead: a head is read (written by wip/gen/pnh7.py). -/
import Derived.Test.YtfhcefglefkakaaGreatDoorPnh6
namespace Go.Proofs.YtfhcefglefkakaaGreatDoor.Ph
open Go.ChangeShapes Go.WideShapes Go.ChangeAt Go.RowKit
open Go.Proofs.YtfhcefglefkakaaGreatDoor.Le Go.Proofs.YtfhcefglefkakaaGreatDoor.Sr Go.Proofs.YtfhcefglefkakaaGreatDoor.Tk
set_option linter.unusedVariables false

set_option maxRecDepth 100000 in
set_option maxHeartbeats 8000000 in
theorem read_calls (c l : Nat) (s : ByteArray) (x : St) (W : World) (h : Rd c l s 0 x W) (hr : x.r = 0) :
    Calls Tryz.prog 33 #[.pointer (some ⟨c, 0, none⟩)] W (RP W c l s x) := by
  have hcw := h.clt
  have hlw := h.llt
  have hbig := h.so.big
  obtain ⟨ra, hra⟩ : ∃ r, W.heap.size = r := ⟨_, rfl⟩
  have hz0 := size_alloc W (.cells #[.int .i64 0, .int .i64 0, .int .i64 0, .int .i64 0, .int .i64 0] 93)
  have HA0 : Hc ra 0 0 0 0 0 (W.alloc (.cells #[.int .i64 0, .int .i64 0, .int .i64 0, .int .i64 0, .int .i64 0] 93)) := by
    rw [← hra]
    exact blk_at
  have HB0 : Fl (ra + 1) 0 0 0 ((W.alloc (.cells #[.int .i64 0, .int .i64 0, .int .i64 0, .int .i64 0, .int .i64 0] 93)).alloc (.cells #[.int .i64 0, .int .i64 0, .int .i64 0] 36)) := by
    have := Fl.new (W.alloc (.cells #[.int .i64 0, .int .i64 0, .int .i64 0, .int .i64 0, .int .i64 0] 93))
    rw [hz0, hra] at this
    exact this
  have HA0 := HA0.al (.cells #[.int .i64 0, .int .i64 0, .int .i64 0] 36)
  have g0 := gb_trans (World.grownBy_alloc W (.cells #[.int .i64 0, .int .i64 0, .int .i64 0, .int .i64 0, .int .i64 0] 93) none) (World.grownBy_alloc _ (.cells #[.int .i64 0, .int .i64 0, .int .i64 0] 36) none)
  have HR0 := h.grown g0
  have HT0 : Tn W _ [c, l] := Tn.gb g0 (by simp)
  have KK := Lib.hid (kind_calls c l s x W _ HR0 hr)
  have HA0 := Lib.hid HA0
  have HB0 := Lib.hid HB0
  have HT0 := Lib.hid HT0
  have HX := Lib.hid hr
  have HCR : c < ra := by omega
  have HLR : l < ra := by omega
  clear h hr g0 HR0 hcw hlw hz0
  go_enter Tryz.func33, Tryz.ntmps33
  go_wp2_with fail
  have HRA := Lib.hid hra
  clear hra
  generalize (W.alloc (.cells #[.int .i64 0, .int .i64 0, .int .i64 0, .int .i64 0, .int .i64 0] 93)).alloc (.cells #[.int .i64 0, .int .i64 0, .int .i64 0] 36) = w0 at HA0 HB0 HT0 KK ⊢
  obtain ⟨rb, hrb⟩ : ∃ r, ra + 1 = r := ⟨_, rfl⟩
  rw [hrb] at HB0 ⊢
  have HRB := Lib.hid hrb
  have HNA : ra ∉ [c, l] := by simp; omega
  have HNB : rb ∉ [c, l] := by simp; omega
  have hab : ¬ ra = rb := by omega
  have hba : ¬ rb = ra := by omega
  clear hrb
  refine KK.out.mono ?_
  rintro e w1 ⟨q, hq, T1, ⟨k, f, a, y, rfl, R1, P⟩ | ⟨k, hk1, hk6, hs2, hb0, hb1, rfl, R1⟩⟩
  · have A1 := HA0.out.turned T1 HNA
    have B1 := HB0.out.turned T1 HNB
    have hb1 := B1.lt
    have hne : ¬ w1.heap.size = rb := by omega
    have hne' : ¬ rb = w1.heap.size := by omega
    have ha1 := A1.lt
    have hne2 : ¬ w1.heap.size = ra := by omega
    have hne2' : ¬ ra = w1.heap.size := by omega
    have V2 : Fl w1.heap.size k f a (w1.alloc (.cells #[.int .i64 k, .int .i64 f, .int .i64 a] 36)) := blk_at
    have HV2 := Lib.hid V2
    have HA2 := Lib.hid (A1.al (.cells #[.int .i64 k, .int .i64 f, .int .i64 a] 36))
    have HB2 := Lib.hid (Fl.al B1 (.cells #[.int .i64 k, .int .i64 f, .int .i64 a] 36))
    have HT2 := Lib.hid ((HT0.out.trans T1).al (o := .cells #[.int .i64 k, .int .i64 f, .int .i64 a] 36))
    have HR2 := Lib.hid (R1.grown (World.grownBy_alloc w1 (.cells #[.int .i64 k, .int .i64 f, .int .i64 a] 36) none))
    have HP := Lib.hid P
    have d0 : (k == 0) = false := by rw [beq_eq_false_iff_ne]; exact P.1
    have d0' : (k != 0) = true := by rw [bne_iff_ne]; exact P.1
    clear A1 B1 T1 R1 P V2 KK HA0 HB0 HT0
    simp only [bfT]
    go_wp2_with fail
    generalize w1.alloc (.cells #[.int .i64 k, .int .i64 f, .int .i64 a] 36) = w2 at HV2 HA2 HB2 HT2 HR2 ⊢
    have A9 := HA2.out
    have aq0 := A9.c0
    have aq1 := A9.c1
    have aq2 := A9.c2
    have aq3 := A9.c3
    have aq4 := A9.c4
    have af0 := A9.free 0
    have af1 := A9.free 1
    have af2 := A9.free 2
    have af3 := A9.free 3
    have af4 := A9.free 4
    have alt := A9.lt
    clear A9
    have B9 := HB2.out
    have bq0 := B9.c0
    have bq1 := B9.c1
    have bq2 := B9.c2
    have bf0 := B9.free 0
    have bf1 := B9.free 1
    have bf2 := B9.free 2
    have blt := B9.lt
    clear B9
    have V9 := HV2.out
    have vq0 := V9.c0
    have vq1 := V9.c1
    have vq2 := V9.c2
    have vf0 := V9.free 0
    have vf1 := V9.free 1
    have vf2 := V9.free 2
    have vlt := V9.lt
    clear V9
    go_region
    go_wp2
    refine bodyPost_ret (v := fdT k f a) (by simp only [results, Tryz.results33, fdT]; go_simp) rfl ?_
    refine HP.out.2 _ ?_ ?_
    · have h1 := HRA.out
      have h2 := HRB.out
      repeat' first | with_reducible exact HT2.out | with_reducible refine Tn.own1 ?_ (by omega) | with_reducible refine Tn.dr ?_ | with_reducible refine Tn.al ?_
    · have h2 := HRB.out
      repeat' first | with_reducible exact HR2.out | with_reducible refine Rd.st ?_ (by omega) (by omega) | with_reducible refine Rd.grown ?_ (gb_drew _ _) | with_reducible refine Rd.grown ?_ (World.grownBy_alloc _ _ none)
  · have A1 := HA0.out.turned T1 HNA
    have B1 := HB0.out.turned T1 HNB
    have hb1' := B1.lt
    have ha1 := A1.lt
    have V2 : Fl w1.heap.size 0 0 0 (w1.alloc (.cells #[.int .i64 0, .int .i64 0, .int .i64 0] 36)) := blk_at
    have hz1 := size_alloc w1 (.cells #[.int .i64 0, .int .i64 0, .int .i64 0] 36)
    have HV2 := Lib.hid V2
    have HA2 := Lib.hid (A1.al (.cells #[.int .i64 0, .int .i64 0, .int .i64 0] 36))
    have HB2 := Lib.hid (Fl.al B1 (.cells #[.int .i64 0, .int .i64 0, .int .i64 0] 36))
    have HT2 := Lib.hid ((HT0.out.trans T1).al (o := .cells #[.int .i64 0, .int .i64 0, .int .i64 0] 36))
    have HR2 := Lib.hid (R1.grown (World.grownBy_alloc w1 (.cells #[.int .i64 0, .int .i64 0, .int .i64 0] 36) none))
    obtain ⟨vb, hvb⟩ : ∃ v, w1.heap.size = v := ⟨_, rfl⟩
    rw [hvb] at HV2 hz1
    have hvlt : ra < vb ∧ rb < vb := by omega
    clear A1 B1 T1 R1 V2 KK HA0 HB0 HT0
    simp only [bfT]
    go_wp2_with fail
    generalize w1.alloc (.cells #[.int .i64 0, .int .i64 0, .int .i64 0] 36) = w2 at HV2 HA2 HB2 HT2 HR2 hz1 ⊢
    have D3 : Hc (vb + 1) k 0 0 1 0 (w2.alloc (.cells #[.int .i64 k, .int .i64 0, .int .i64 0, .int .i64 1, .int .i64 0] 93)) := by
      have := blk_at (w := w2) (o := .cells #[.int .i64 k, .int .i64 0, .int .i64 0, .int .i64 1, .int .i64 0] 93)
      rw [hz1] at this
      exact this
    have HV3 := Lib.hid (Fl.al HV2.out (.cells #[.int .i64 k, .int .i64 0, .int .i64 0, .int .i64 1, .int .i64 0] 93))
    have HA3 := Lib.hid (HA2.out.al (.cells #[.int .i64 k, .int .i64 0, .int .i64 0, .int .i64 1, .int .i64 0] 93))
    have HB3 := Lib.hid (Fl.al HB2.out (.cells #[.int .i64 k, .int .i64 0, .int .i64 0, .int .i64 1, .int .i64 0] 93))
    have HT3 := Lib.hid (HT2.out.al (o := .cells #[.int .i64 k, .int .i64 0, .int .i64 0, .int .i64 1, .int .i64 0] 93))
    have HR3 := Lib.hid (HR2.out.grown (World.grownBy_alloc w2 (.cells #[.int .i64 k, .int .i64 0, .int .i64 0, .int .i64 1, .int .i64 0] 93) none))
    have HD3 := Lib.hid D3
    have HZ1 := Lib.hid hz1
    clear HV2 HA2 HB2 HT2 HR2 D3 hvb hz1
    generalize w2.alloc (.cells #[.int .i64 k, .int .i64 0, .int .i64 0, .int .i64 1, .int .i64 0] 93) = w3 at HV3 HA3 HB3 HT3 HR3 HD3 ⊢
    obtain ⟨hd, hhd⟩ : ∃ v, vb + 1 = v := ⟨_, rfl⟩
    rw [hhd] at HD3
    try rw [hhd]
    have hdl : vb < hd := by omega
    have nv1 : ¬ vb = ra := by omega
    have nv2 : ¬ ra = vb := by omega
    have nv3 : ¬ vb = rb := by omega
    have nv4 : ¬ rb = vb := by omega
    have nh1 : ¬ hd = ra := by omega
    have nh2 : ¬ ra = hd := by omega
    have nh3 : ¬ hd = rb := by omega
    have nh4 : ¬ rb = hd := by omega
    have nh5 : ¬ hd = vb := by omega
    have nh6 : ¬ vb = hd := by omega
    clear hhd
    have HNV : vb ∉ [c, l, hd] := by simp; omega
    have HNA' : ra ∉ [c, l, hd] := by simp; omega
    have HNB' : rb ∉ [c, l, hd] := by have := HRB.out; simp; omega
    obtain ⟨R, hRn⟩ : ∃ R, nums s k 3 nr0 = R := ⟨_, rfl⟩
    have hv := readV_4 (s := s) (k := k) (by omega) hb0 ⟨hk1, hk6⟩ hb1
    have hn := readN_4 (s := s) (k := k) (by omega) hb0 ⟨hk1, hk6⟩ hb1
    rw [hRn] at hv hn
    have KN := Lib.hid (numbers_calls c l hd s k R x W w3 HR3.out HD3.out HX.out (by omega) (by omega) hRn hv hn)
    have HV := Lib.hid hv
    have HN := Lib.hid hn
    clear hv hn hRn HR3 HD3 hb0 hb1
    refine KN.out.mono ?_
    rintro e w4 ⟨q, hq, T4, ⟨kf, f, a, y, rfl, R4, P⟩ | ⟨hRf, hqa, rfl, R4, D4⟩⟩
    · have V4 := HV3.out.turned T4 HNV
      have A4 := HA3.out.turned T4 HNA'
      have B4 := HB3.out.turned T4 HNB'
      have HT4 := Lib.hid (HT3.out.over T4 (by have := HRA.out; intro z hz; simp at hz ⊢; omega))
      have HR4 := Lib.hid R4
      have HP := Lib.hid P
      have d0 : (kf == 0) = false := by rw [beq_eq_false_iff_ne]; exact P.1
      have d0' : (kf != 0) = true := by rw [bne_iff_ne]; exact P.1
      have HV5 := Lib.hid (V4.set kf f a)
      have HA4 := Lib.hid A4
      have HB4 := Lib.hid B4
      clear T4 R4 P A4 B4 KN HV3 HA3 HB3 HT3
      have V9 := V4
      have vq0 := V9.c0
      have vq1 := V9.c1
      have vq2 := V9.c2
      have vf0 := V9.free 0
      have vf1 := V9.free 1
      have vf2 := V9.free 2
      have vlt := V9.lt
      clear V9
      clear V4
      go_wp2_with fail
      have HA5 := Lib.hid (((HA4.out.oth (o := 0) (v := .int .i64 kf) nv2).oth (o := 1) (v := .int .i64 f) nv2).oth (o := 2) (v := .int .i64 a) nv2)
      have HB5 := Lib.hid (Fl.oth (Fl.oth (Fl.oth HB4.out (o := 0) (v := .int .i64 kf) nv4) (o := 1) (v := .int .i64 f) nv4) (o := 2) (v := .int .i64 a) nv4)
      have HT5 := Lib.hid (Tn.own1 (Tn.own1 (Tn.own1 HT4.out (k := vb) (i := 0) (v := .int .i64 kf) (by have := HRA.out; omega)) (k := vb) (i := 1) (v := .int .i64 f) (by have := HRA.out; omega)) (k := vb) (i := 2) (v := .int .i64 a) (by have := HRA.out; omega))
      have HR5 := Lib.hid (HR4.out.st3 (k := vb) (v0 := .int .i64 kf) (v1 := .int .i64 f) (v2 := .int .i64 a) (by omega) (by omega))
      clear vq0 vq1 vq2 vf0 vf1 vf2 HA4 HB4 HT4 HR4
      generalize ((w4.setCell ⟨vb, 0, none⟩ (.int .i64 kf)).setCell ⟨vb, 1, none⟩ (.int .i64 f)).setCell ⟨vb, 2, none⟩ (.int .i64 a) = w5 at HV5 HA5 HB5 HT5 HR5 ⊢
      have A9 := HA5.out
      have aq0 := A9.c0
      have aq1 := A9.c1
      have aq2 := A9.c2
      have aq3 := A9.c3
      have aq4 := A9.c4
      have af0 := A9.free 0
      have af1 := A9.free 1
      have af2 := A9.free 2
      have af3 := A9.free 3
      have af4 := A9.free 4
      have alt := A9.lt
      clear A9
      have B9 := HB5.out
      have bq0 := B9.c0
      have bq1 := B9.c1
      have bq2 := B9.c2
      have bf0 := B9.free 0
      have bf1 := B9.free 1
      have bf2 := B9.free 2
      have blt := B9.lt
      clear B9
      have V9 := HV5.out
      have vq0 := V9.c0
      have vq1 := V9.c1
      have vq2 := V9.c2
      have vf0 := V9.free 0
      have vf1 := V9.free 1
      have vf2 := V9.free 2
      have vlt := V9.lt
      clear V9
      go_region
      go_wp2
      refine bodyPost_ret (v := fdT kf f a) (by simp only [results, Tryz.results33, fdT]; go_simp) rfl ?_
      refine HP.out.2 _ ?_ ?_
      · have h1 := HRA.out
        have h2 := HRB.out
        repeat' first | with_reducible exact HT5.out | with_reducible refine Tn.own1 ?_ (by omega) | with_reducible refine Tn.dr ?_ | with_reducible refine Tn.al ?_
      · have h2 := HRB.out
        repeat' first | with_reducible exact HR5.out | with_reducible refine Rd.st ?_ (by omega) (by omega) | with_reducible refine Rd.grown ?_ (gb_drew _ _) | with_reducible refine Rd.grown ?_ (World.grownBy_alloc _ _ none)
    · have V4 := HV3.out.turned T4 HNV
      have A4 := HA3.out.turned T4 HNA'
      have B4 := HB3.out.turned T4 HNB'
      have T4 := HT3.out.over T4 (by have := HRA.out; intro z hz; simp at hz ⊢; omega)
      obtain ⟨Rf, Rp, Ra, Rw, Rh, Rm, Rn⟩ := R
      obtain rfl : Rf = 0 := hRf
      obtain rfl : q = Ra := hqa
      have R4 : Rd c l s q (stp x Rn) w4 := R4
      have D4 : Hc hd k Rw Rh Rm 0 w4 := D4
      have HV5 := Lib.hid (V4.set 0 0 0)
      have HA5 := Lib.hid (((A4.oth (o := 0) (v := .int .i64 0) nv2).oth (o := 1) (v := .int .i64 0) nv2).oth (o := 2) (v := .int .i64 0) nv2)
      have HB5 := Lib.hid (Fl.oth (Fl.oth (Fl.oth B4 (o := 0) (v := .int .i64 0) nv4) (o := 1) (v := .int .i64 0) nv4) (o := 2) (v := .int .i64 0) nv4)
      have HD5 := Lib.hid (((D4.oth (o := 0) (v := .int .i64 0) nh5).oth (o := 1) (v := .int .i64 0) nh5).oth (o := 2) (v := .int .i64 0) nh5)
      have HT5 := Lib.hid (Tn.own1 (Tn.own1 (Tn.own1 T4 (k := vb) (i := 0) (v := .int .i64 0) (by have := HRA.out; omega)) (k := vb) (i := 1) (v := .int .i64 0) (by have := HRA.out; omega)) (k := vb) (i := 2) (v := .int .i64 0) (by have := HRA.out; omega))
      have HR5 := Lib.hid (R4.st3 (k := vb) (v0 := .int .i64 0) (v1 := .int .i64 0) (v2 := .int .i64 0) (by omega) (by omega))
      have V9 := V4
      have vq0 := V9.c0
      have vq1 := V9.c1
      have vq2 := V9.c2
      have vf0 := V9.free 0
      have vf1 := V9.free 1
      have vf2 := V9.free 2
      have vlt := V9.lt
      clear V9
      clear V4 A4 B4 T4 R4 D4 KN HV3 HA3 HB3 HT3
      simp only [okF]
      have KT := fun u => text_calls k u
      by_cases h4 : 4 ≤ k
      · simp only [(rgB_not 1 3 (k : Int)).2 (by omega)] at KT
        have KT := Lib.hid KT
        go_wp2_with fail
        clear vq0 vq1 vq2 vf0 vf1 vf2
        generalize ((w4.setCell ⟨vb, 0, none⟩ (.int .i64 0)).setCell ⟨vb, 1, none⟩ (.int .i64 0)).setCell ⟨vb, 2, none⟩ (.int .i64 0) = w5 at HV5 HA5 HB5 HD5 HT5 HR5 ⊢
        refine (KT.out _).mono ?_
        rintro e w' ⟨rfl, rfl⟩
        have hst := HR5.out.ok.ts
        rw [stp_st, stp_s] at hst
        by_cases hk : x.s < x.st + (Rn : Nat) + 1
        · have P : FP W c l s x 4 3 q q (spent x) := by
            refine fp_spent hq ?_
            rw [HN.out]
            unfold endN
            rw [if_neg (fun h => h rfl), if_pos h4]
            show x.s < x.st + ((Rn + 1 : Nat) : Int)
            omega
          have K1 := Lib.hid (one_spent c l s q _ w5 HR5.out HX.out hk)
          have HP := Lib.hid P
          clear hk P HR5
          go_wp2_with fail
          refine K1.out.mono ?_
          rintro e w6 ⟨rfl, R4, t6⟩
          have R4 : Rd c l s q (spent x) w6 := R4
          have V4 := HV5.out.turned t6 (by simp; omega)
          have A4 := HA5.out.turned t6 (by simp; omega)
          have B4 := HB5.out.turned t6 HNB
          have D4 := HD5.out.turned t6 (by simp; omega)
          have T4 := HT5.out.trans t6
          clear HV5 HA5 HB5 HD5 HT5 t6 K1
          have HV5 := Lib.hid (V4.set 4 3 q)
          have HA5 := Lib.hid (((A4.oth (o := 0) (v := .int .i64 4) nv2).oth (o := 1) (v := .int .i64 3) nv2).oth (o := 2) (v := .int .i64 q) nv2)
          have HB5 := Lib.hid (Fl.oth (Fl.oth (Fl.oth B4 (o := 0) (v := .int .i64 4) nv4) (o := 1) (v := .int .i64 3) nv4) (o := 2) (v := .int .i64 q) nv4)
          have HD5 := Lib.hid (((D4.oth (o := 0) (v := .int .i64 4) nh5).oth (o := 1) (v := .int .i64 3) nh5).oth (o := 2) (v := .int .i64 q) nh5)
          have HT5 := Lib.hid (Tn.own1 (Tn.own1 (Tn.own1 T4 (k := vb) (i := 0) (v := .int .i64 4) (by have := HRA.out; omega)) (k := vb) (i := 1) (v := .int .i64 3) (by have := HRA.out; omega)) (k := vb) (i := 2) (v := .int .i64 q) (by have := HRA.out; omega))
          have HR5 := Lib.hid (R4.st3 (k := vb) (v0 := .int .i64 4) (v1 := .int .i64 3) (v2 := .int .i64 q) (by omega) (by omega))
          have V9 := V4
          have vq0 := V9.c0
          have vq1 := V9.c1
          have vq2 := V9.c2
          have vf0 := V9.free 0
          have vf1 := V9.free 1
          have vf2 := V9.free 2
          have vlt := V9.lt
          clear V9
          clear V4 A4 B4 T4 R4 D4
          simp only [noF]
          go_wp2_with fail
          clear vq0 vq1 vq2 vf0 vf1 vf2
          generalize ((w6.setCell ⟨vb, 0, none⟩ (.int .i64 4)).setCell ⟨vb, 1, none⟩ (.int .i64 3)).setCell ⟨vb, 2, none⟩ (.int .i64 q) = w7 at HV5 HA5 HB5 HD5 HT5 HR5 ⊢
          have A9 := HA5.out
          have aq0 := A9.c0
          have aq1 := A9.c1
          have aq2 := A9.c2
          have aq3 := A9.c3
          have aq4 := A9.c4
          have af0 := A9.free 0
          have af1 := A9.free 1
          have af2 := A9.free 2
          have af3 := A9.free 3
          have af4 := A9.free 4
          have alt := A9.lt
          clear A9
          have B9 := HB5.out
          have bq0 := B9.c0
          have bq1 := B9.c1
          have bq2 := B9.c2
          have bf0 := B9.free 0
          have bf1 := B9.free 1
          have bf2 := B9.free 2
          have blt := B9.lt
          clear B9
          have V9 := HV5.out
          have vq0 := V9.c0
          have vq1 := V9.c1
          have vq2 := V9.c2
          have vf0 := V9.free 0
          have vf1 := V9.free 1
          have vf2 := V9.free 2
          have vlt := V9.lt
          clear V9
          go_region
          go_wp2
          refine bodyPost_ret (v := fdT 4 3 q) (by simp only [results, Tryz.results33, fdT]; go_simp) rfl ?_
          refine HP.out.2 _ ?_ ?_
          · have h1 := HRA.out
            have h2 := HRB.out
            repeat' first | with_reducible exact HT5.out | with_reducible refine Tn.own1 ?_ (by omega) | with_reducible refine Tn.dr ?_ | with_reducible refine Tn.al ?_
          · have h2 := HRB.out
            repeat' first | with_reducible exact HR5.out | with_reducible refine Rd.st ?_ (by omega) (by omega) | with_reducible refine Rd.grown ?_ (gb_drew _ _) | with_reducible refine Rd.grown ?_ (World.grownBy_alloc _ _ none)
        · by_cases hqs : q < s.size
          · have K1 := one_yes c l s q _ w5 HR5.out HX.out (by rw [stp_st, stp_s]; omega) hqs
            rw [stp_stp] at K1
            cases eB : blankB (bt s q)
            · rw [eB, if_neg (by decide)] at K1
              have hvv : readV s = ⟨0, 0, 0, 0, 0, 2, q⟩ := HV.out.trans (endV_bad rfl h4 hqs eB)
              have hnn : readN s = Rn + 1 := by
                rw [HN.out]
                unfold endN
                rw [if_neg (fun h => h rfl), if_pos h4]
              have HP := Lib.hid (fp_fault (W := W) (c := c) (l := l) (x := x) (q := q + 1) (by omega) (by decide) hvv hnn)
              have K1 := Lib.hid K1
              clear eB hvv hnn hk HR5
              go_wp2_with fail
              refine K1.out.mono ?_
              rintro e w6 ⟨rfl, R4, t6⟩
              have V4 := HV5.out.turned t6 (by simp; omega)
              have A4 := HA5.out.turned t6 (by simp; omega)
              have B4 := HB5.out.turned t6 HNB
              have D4 := HD5.out.turned t6 (by simp; omega)
              have T4 := HT5.out.trans t6
              clear HV5 HA5 HB5 HD5 HT5 t6 K1
              have HV5 := Lib.hid (V4.set 2 3 q)
              have HA5 := Lib.hid (((A4.oth (o := 0) (v := .int .i64 2) nv2).oth (o := 1) (v := .int .i64 3) nv2).oth (o := 2) (v := .int .i64 q) nv2)
              have HB5 := Lib.hid (Fl.oth (Fl.oth (Fl.oth B4 (o := 0) (v := .int .i64 2) nv4) (o := 1) (v := .int .i64 3) nv4) (o := 2) (v := .int .i64 q) nv4)
              have HD5 := Lib.hid (((D4.oth (o := 0) (v := .int .i64 2) nh5).oth (o := 1) (v := .int .i64 3) nh5).oth (o := 2) (v := .int .i64 q) nh5)
              have HT5 := Lib.hid (Tn.own1 (Tn.own1 (Tn.own1 T4 (k := vb) (i := 0) (v := .int .i64 2) (by have := HRA.out; omega)) (k := vb) (i := 1) (v := .int .i64 3) (by have := HRA.out; omega)) (k := vb) (i := 2) (v := .int .i64 q) (by have := HRA.out; omega))
              have HR5 := Lib.hid (R4.st3 (k := vb) (v0 := .int .i64 2) (v1 := .int .i64 3) (v2 := .int .i64 q) (by omega) (by omega))
              have V9 := V4
              have vq0 := V9.c0
              have vq1 := V9.c1
              have vq2 := V9.c2
              have vf0 := V9.free 0
              have vf1 := V9.free 1
              have vf2 := V9.free 2
              have vlt := V9.lt
              clear V9
              clear V4 A4 B4 T4 R4 D4
              go_wp2_with fail
              clear vq0 vq1 vq2 vf0 vf1 vf2
              generalize ((w6.setCell ⟨vb, 0, none⟩ (.int .i64 2)).setCell ⟨vb, 1, none⟩ (.int .i64 3)).setCell ⟨vb, 2, none⟩ (.int .i64 q) = w7 at HV5 HA5 HB5 HD5 HT5 HR5 ⊢
              have A9 := HA5.out
              have aq0 := A9.c0
              have aq1 := A9.c1
              have aq2 := A9.c2
              have aq3 := A9.c3
              have aq4 := A9.c4
              have af0 := A9.free 0
              have af1 := A9.free 1
              have af2 := A9.free 2
              have af3 := A9.free 3
              have af4 := A9.free 4
              have alt := A9.lt
              clear A9
              have B9 := HB5.out
              have bq0 := B9.c0
              have bq1 := B9.c1
              have bq2 := B9.c2
              have bf0 := B9.free 0
              have bf1 := B9.free 1
              have bf2 := B9.free 2
              have blt := B9.lt
              clear B9
              have V9 := HV5.out
              have vq0 := V9.c0
              have vq1 := V9.c1
              have vq2 := V9.c2
              have vf0 := V9.free 0
              have vf1 := V9.free 1
              have vf2 := V9.free 2
              have vlt := V9.lt
              clear V9
              go_region
              go_wp2
              refine bodyPost_ret (v := fdT 2 3 q) (by simp only [results, Tryz.results33, fdT]; go_simp) rfl ?_
              refine HP.out.2 _ ?_ ?_
              · have h1 := HRA.out
                have h2 := HRB.out
                repeat' first | with_reducible exact HT5.out | with_reducible refine Tn.own1 ?_ (by omega) | with_reducible refine Tn.dr ?_ | with_reducible refine Tn.al ?_
              · have h2 := HRB.out
                repeat' first | with_reducible exact HR5.out | with_reducible refine Rd.st ?_ (by omega) (by omega) | with_reducible refine Rd.grown ?_ (gb_drew _ _) | with_reducible refine Rd.grown ?_ (World.grownBy_alloc _ _ none)
            · rw [eB, if_pos rfl] at K1
              have hvv : readV s = ⟨k, Rw, Rh, Rm, q + 1, 0, 0⟩ := HV.out.trans (endV_yes rfl h4 hqs eB)
              have hnn : readN s = Rn + 1 := by
                rw [HN.out]
                unfold endN
                rw [if_neg (fun h => h rfl), if_pos h4]
              have HVV := Lib.hid hvv
              have HNN := Lib.hid hnn
              have K1 := Lib.hid K1
              clear eB hvv hnn hk HR5
              go_wp2_with fail
              refine K1.out.mono ?_
              rintro e w6 ⟨rfl, R4, t6⟩
              have V4 := HV5.out.turned t6 (by simp; omega)
              have A4 := HA5.out.turned t6 (by simp; omega)
              have B4 := HB5.out.turned t6 HNB
              have D4 := HD5.out.turned t6 (by simp; omega)
              have T4 := HT5.out.trans t6
              clear HV5 HA5 HB5 HD5 HT5 t6 K1
              have HV5 := Lib.hid (V4.set 0 0 0)
              have HA5 := Lib.hid (((A4.oth (o := 0) (v := .int .i64 0) nv2).oth (o := 1) (v := .int .i64 0) nv2).oth (o := 2) (v := .int .i64 0) nv2)
              have HB5 := Lib.hid (Fl.oth (Fl.oth (Fl.oth B4 (o := 0) (v := .int .i64 0) nv4) (o := 1) (v := .int .i64 0) nv4) (o := 2) (v := .int .i64 0) nv4)
              have HD5 := Lib.hid (((D4.oth (o := 0) (v := .int .i64 0) nh5).oth (o := 1) (v := .int .i64 0) nh5).oth (o := 2) (v := .int .i64 0) nh5)
              have HT5 := Lib.hid (Tn.own1 (Tn.own1 (Tn.own1 T4 (k := vb) (i := 0) (v := .int .i64 0) (by have := HRA.out; omega)) (k := vb) (i := 1) (v := .int .i64 0) (by have := HRA.out; omega)) (k := vb) (i := 2) (v := .int .i64 0) (by have := HRA.out; omega))
              have HR5 := Lib.hid (R4.st3 (k := vb) (v0 := .int .i64 0) (v1 := .int .i64 0) (v2 := .int .i64 0) (by omega) (by omega))
              have V9 := V4
              have vq0 := V9.c0
              have vq1 := V9.c1
              have vq2 := V9.c2
              have vf0 := V9.free 0
              have vf1 := V9.free 1
              have vf2 := V9.free 2
              have vlt := V9.lt
              clear V9
              clear V4 A4 B4 T4 R4 D4
              simp only [okF]
              go_wp2_with fail
              clear vq0 vq1 vq2 vf0 vf1 vf2
              generalize ((w6.setCell ⟨vb, 0, none⟩ (.int .i64 0)).setCell ⟨vb, 1, none⟩ (.int .i64 0)).setCell ⟨vb, 2, none⟩ (.int .i64 0) = w7 at HV5 HA5 HB5 HD5 HT5 HR5 ⊢
              refine (at_rd c l s (q + 1) _ w7 HR5.out).mono ?_
              rintro e w' ⟨rfl, rfl⟩
              have A9 := HA5.out
              have aq0 := A9.c0
              have aq1 := A9.c1
              have aq2 := A9.c2
              have aq3 := A9.c3
              have aq4 := A9.c4
              have af0 := A9.free 0
              have af1 := A9.free 1
              have af2 := A9.free 2
              have af3 := A9.free 3
              have af4 := A9.free 4
              have alt := A9.lt
              clear A9
              have B9 := HB5.out
              have bq0 := B9.c0
              have bq1 := B9.c1
              have bq2 := B9.c2
              have bf0 := B9.free 0
              have bf1 := B9.free 1
              have bf2 := B9.free 2
              have blt := B9.lt
              clear B9
              have D9 := HD5.out
              have dq0 := D9.c0
              have dq1 := D9.c1
              have dq2 := D9.c2
              have dq3 := D9.c3
              have dq4 := D9.c4
              have df0 := D9.free 0
              have df1 := D9.free 1
              have df2 := D9.free 2
              have df3 := D9.free 3
              have df4 := D9.free 4
              have dlt := D9.lt
              clear D9
              have hqq : (((q + 1 : Nat)) : Int) = ((q + 1 : Nat) : Int) := rfl
              go_wp2
              refine bodyPost_ret (v := rdT ⟨k, Rw, Rh, Rm, q + 1, 0, 0⟩) (by simp only [results, Tryz.results33, rdT, show ((fmK 0 : Nat) : Int) = 0 from rfl]; go_simp) rfl ⟨q + 1, by omega, ?_, .inl ⟨by rw [HVV.out], by rw [HVV.out]; exact fun _ => rfl, ?_⟩⟩
              · have h1 := HRA.out
                have h2 := HRB.out
                repeat' first | with_reducible exact HT5.out | with_reducible refine Tn.own1 ?_ (by omega) | with_reducible refine Tn.dr ?_ | with_reducible refine Tn.al ?_
              · rw [HNN.out]
                have h2 := HRB.out
                repeat' first | with_reducible exact HR5.out | with_reducible refine Rd.st ?_ (by omega) (by omega) | with_reducible refine Rd.grown ?_ (gb_drew _ _) | with_reducible refine Rd.grown ?_ (World.grownBy_alloc _ _ none)
          · have hqe : s.size ≤ q := by omega
            have hvv : readV s = ⟨0, 0, 0, 0, 0, 1, s.size⟩ := HV.out.trans (endV_short rfl h4 hqe)
            have hnn : readN s = Rn + 1 := by
              rw [HN.out]
              unfold endN
              rw [if_neg (fun h => h rfl), if_pos h4]
            have HP := Lib.hid (fp_fault (W := W) (c := c) (l := l) (x := x) hq (by decide) hvv hnn)
            have K1 := one_end c l s q _ w5 HR5.out HX.out (by rw [stp_st, stp_s]; omega) hqe
            rw [stp_stp] at K1
            have K1 := Lib.hid K1
            clear hvv hnn hk HR5
            go_wp2_with fail
            refine K1.out.mono ?_
            rintro e w6 ⟨rfl, R4, t6⟩
            have V4 := HV5.out.turned t6 (by simp; omega)
            have A4 := HA5.out.turned t6 (by simp; omega)
            have B4 := HB5.out.turned t6 HNB
            have D4 := HD5.out.turned t6 (by simp; omega)
            have T4 := HT5.out.trans t6
            clear HV5 HA5 HB5 HD5 HT5 t6 K1
            have HV5 := Lib.hid (V4.set 1 3 s.size)
            have HA5 := Lib.hid (((A4.oth (o := 0) (v := .int .i64 1) nv2).oth (o := 1) (v := .int .i64 3) nv2).oth (o := 2) (v := .int .i64 s.size) nv2)
            have HB5 := Lib.hid (Fl.oth (Fl.oth (Fl.oth B4 (o := 0) (v := .int .i64 1) nv4) (o := 1) (v := .int .i64 3) nv4) (o := 2) (v := .int .i64 s.size) nv4)
            have HD5 := Lib.hid (((D4.oth (o := 0) (v := .int .i64 1) nh5).oth (o := 1) (v := .int .i64 3) nh5).oth (o := 2) (v := .int .i64 s.size) nh5)
            have HT5 := Lib.hid (Tn.own1 (Tn.own1 (Tn.own1 T4 (k := vb) (i := 0) (v := .int .i64 1) (by have := HRA.out; omega)) (k := vb) (i := 1) (v := .int .i64 3) (by have := HRA.out; omega)) (k := vb) (i := 2) (v := .int .i64 s.size) (by have := HRA.out; omega))
            have HR5 := Lib.hid (R4.st3 (k := vb) (v0 := .int .i64 1) (v1 := .int .i64 3) (v2 := .int .i64 s.size) (by omega) (by omega))
            have V9 := V4
            have vq0 := V9.c0
            have vq1 := V9.c1
            have vq2 := V9.c2
            have vf0 := V9.free 0
            have vf1 := V9.free 1
            have vf2 := V9.free 2
            have vlt := V9.lt
            clear V9
            clear V4 A4 B4 T4 R4 D4
            go_wp2_with fail
            clear vq0 vq1 vq2 vf0 vf1 vf2
            generalize ((w6.setCell ⟨vb, 0, none⟩ (.int .i64 1)).setCell ⟨vb, 1, none⟩ (.int .i64 3)).setCell ⟨vb, 2, none⟩ (.int .i64 s.size) = w7 at HV5 HA5 HB5 HD5 HT5 HR5 ⊢
            have A9 := HA5.out
            have aq0 := A9.c0
            have aq1 := A9.c1
            have aq2 := A9.c2
            have aq3 := A9.c3
            have aq4 := A9.c4
            have af0 := A9.free 0
            have af1 := A9.free 1
            have af2 := A9.free 2
            have af3 := A9.free 3
            have af4 := A9.free 4
            have alt := A9.lt
            clear A9
            have B9 := HB5.out
            have bq0 := B9.c0
            have bq1 := B9.c1
            have bq2 := B9.c2
            have bf0 := B9.free 0
            have bf1 := B9.free 1
            have bf2 := B9.free 2
            have blt := B9.lt
            clear B9
            have V9 := HV5.out
            have vq0 := V9.c0
            have vq1 := V9.c1
            have vq2 := V9.c2
            have vf0 := V9.free 0
            have vf1 := V9.free 1
            have vf2 := V9.free 2
            have vlt := V9.lt
            clear V9
            go_region
            go_wp2
            refine bodyPost_ret (v := fdT 1 3 s.size) (by simp only [results, Tryz.results33, fdT]; go_simp) rfl ?_
            refine HP.out.2 _ ?_ ?_
            · have h1 := HRA.out
              have h2 := HRB.out
              repeat' first | with_reducible exact HT5.out | with_reducible refine Tn.own1 ?_ (by omega) | with_reducible refine Tn.dr ?_ | with_reducible refine Tn.al ?_
            · have h2 := HRB.out
              repeat' first | with_reducible exact HR5.out | with_reducible refine Rd.st ?_ (by omega) (by omega) | with_reducible refine Rd.grown ?_ (gb_drew _ _) | with_reducible refine Rd.grown ?_ (World.grownBy_alloc _ _ none)
      · simp only [(rgB_iff 1 3 (k : Int)).2 (by omega)] at KT
        have KT := Lib.hid KT
        have hvv : readV s = ⟨k, Rw, Rh, Rm, q, 0, 0⟩ := HV.out.trans (endV_text rfl h4)
        have hnn : readN s = Rn := by
          rw [HN.out]
          unfold endN
          rw [if_neg (fun h => h rfl), if_neg h4]
        have HVV := Lib.hid hvv
        have HNN := Lib.hid hnn
        clear hvv hnn
        go_wp2_with fail
        clear vq0 vq1 vq2 vf0 vf1 vf2
        generalize ((w4.setCell ⟨vb, 0, none⟩ (.int .i64 0)).setCell ⟨vb, 1, none⟩ (.int .i64 0)).setCell ⟨vb, 2, none⟩ (.int .i64 0) = w5 at HV5 HA5 HB5 HD5 HT5 HR5 ⊢
        refine (KT.out _).mono ?_
        rintro e w' ⟨rfl, rfl⟩
        go_wp2_with fail
        refine (at_rd c l s (q) _ w5 HR5.out).mono ?_
        rintro e w' ⟨rfl, rfl⟩
        have A9 := HA5.out
        have aq0 := A9.c0
        have aq1 := A9.c1
        have aq2 := A9.c2
        have aq3 := A9.c3
        have aq4 := A9.c4
        have af0 := A9.free 0
        have af1 := A9.free 1
        have af2 := A9.free 2
        have af3 := A9.free 3
        have af4 := A9.free 4
        have alt := A9.lt
        clear A9
        have B9 := HB5.out
        have bq0 := B9.c0
        have bq1 := B9.c1
        have bq2 := B9.c2
        have bf0 := B9.free 0
        have bf1 := B9.free 1
        have bf2 := B9.free 2
        have blt := B9.lt
        clear B9
        have D9 := HD5.out
        have dq0 := D9.c0
        have dq1 := D9.c1
        have dq2 := D9.c2
        have dq3 := D9.c3
        have dq4 := D9.c4
        have df0 := D9.free 0
        have df1 := D9.free 1
        have df2 := D9.free 2
        have df3 := D9.free 3
        have df4 := D9.free 4
        have dlt := D9.lt
        clear D9
        have hqq : (((q : Nat)) : Int) = ((q : Nat) : Int) := rfl
        go_wp2
        refine bodyPost_ret (v := rdT ⟨k, Rw, Rh, Rm, q, 0, 0⟩) (by simp only [results, Tryz.results33, rdT, show ((fmK 0 : Nat) : Int) = 0 from rfl]; go_simp) rfl ⟨q, by omega, ?_, .inl ⟨by rw [HVV.out], by rw [HVV.out]; exact fun _ => rfl, ?_⟩⟩
        · have h1 := HRA.out
          have h2 := HRB.out
          repeat' first | with_reducible exact HT5.out | with_reducible refine Tn.own1 ?_ (by omega) | with_reducible refine Tn.dr ?_ | with_reducible refine Tn.al ?_
        · rw [HNN.out]
          have h2 := HRB.out
          repeat' first | with_reducible exact HR5.out | with_reducible refine Rd.st ?_ (by omega) (by omega) | with_reducible refine Rd.grown ?_ (gb_drew _ _) | with_reducible refine Rd.grown ?_ (World.grownBy_alloc _ _ none)

end Go.Proofs.YtfhcefglefkakaaGreatDoor.Ph
