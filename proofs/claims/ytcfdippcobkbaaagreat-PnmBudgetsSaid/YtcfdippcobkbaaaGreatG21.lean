/- Texts of one kind, one behind the other: RunB. -/
import Derived.BigRegion
import Derived.Test.YtcfdippcobkbaaaGreatG20
/- The law of layer 14: a whole file is read (written by wip/gen/run1.py). -/
namespace Go.Proofs.YtcfdippcobkbaaaGreat.Px
open Go.ChangeShapes Go.WideShapes Go.ChangeAt Go.RowKit
open Go.Proofs.YtcfdippcobkbaaaGreat.Le Go.Proofs.YtcfdippcobkbaaaGreat.Tk Go.Proofs.YtcfdippcobkbaaaGreat.Sc Go.Proofs.YtcfdippcobkbaaaGreat.Sr Go.Proofs.YtcfdippcobkbaaaGreat.Ph Go.Proofs.YtcfdippcobkbaaaGreat.Ra
set_option linter.unusedVariables false

set_option maxRecDepth 100000 in
set_option maxHeartbeats 8000000 in
theorem lread14_calls (s : ByteArray) (k w h m a0 : Nat) (wk : Int) (W : World) (hs : s.size ≤ 9223372036854775806) (hV : readV s = ⟨k, w, h, m, a0, 0, 0⟩) (hg : HG s k w h m a0) (hk : 4 ≤ k) (hw : w ≤ 100) (hh : h ≤ 100) (wk0 : 0 ≤ wk) (wk1 : wk ≤ 9223372036854775807) :
    Calls Tryz.prog 18 #[.string s, .int .i64 wk] W (fun e w' => ∃ img fault l ok, e = .returned (.tuple #[img, fault, .pointer (some ⟨l, 0, none⟩), .bool ok]) ∧ Rn W s wk (readN s) w h (rawZ s k m w a0 (w * h)) img fault l ok w') := by
  have KN := Lib.hid (fun u => new_calls 100 100 40000 wk u)
  have KS := Lib.hid (fun l u => snew_calls l s u (by omega))
  have KR := Lib.hid (fun c l x u (R : Rd c l s 0 x u) (hx : x.r = 0) => read_calls c l s x u R hx)
  obtain ⟨N, hN⟩ : ∃ N, w * h = N := ⟨_, rfl⟩
  have hNle : N ≤ 10000 := by
    rw [← hN]
    exact Nat.le_trans (Nat.mul_le_mul hw hh) (by decide)
  have HN := Lib.hid hN
  have hN1 : 1 ≤ N := by
    rw [← hN]
    exact Nat.mul_pos hg.w1 hg.h1
  obtain ⟨Q, hQ⟩ : ∃ Q : Ending → World → Prop, (fun e w' => ∃ img fault l ok, e = .returned (.tuple #[img, fault, .pointer (some ⟨l, 0, none⟩), .bool ok]) ∧ Rn W s wk (readN s) w h (rawZ s k m w a0 (w * h)) img fault l ok w') = Q := ⟨_, rfl⟩
  rw [hQ]
  have HQ := Lib.hid hQ
  have HV := Lib.hid hV
  have HG := Lib.hid hg
  have HK := Lib.hid hk
  have HB := Lib.hid (And.intro wk0 wk1)
  have HRB0 := Lib.hid (RB.new W)
  have dk : decide ((100 : Int) < (w : Int)) = false := decide_eq_false (by omega)
  have dk2 : decide ((100 : Int) < (h : Int)) = false := decide_eq_false (by omega)
  clear hQ hV hg hk wk0 wk1 hs hN
  go_enter Tryz.func18, Tryz.ntmps18
  go_wp2_with fail
  generalize (W.alloc (.cells #[.int .i64 0, .int .i64 0, .slice none 0 0] 32)).alloc (.cells #[.int .i64 0, .int .i64 0, .int .i64 0] 34) = w0 at HRB0 ⊢
  refine (KN.out _).mono ?_
  rintro e w1 ⟨l, rfl, L1, g1, hl⟩
  have HRB1 := Lib.hid (HRB0.out.gb g1)
  have HL := Lib.hid (Nat.lt_of_lt_of_le HRB0.out.lt hl)
  have HL1 := Lib.hid L1
  have hlw1 := L1.lt
  clear L1 g1 hl
  go_wp2_with fail
  refine (KS.out l _).mono ?_
  rintro e w2 ⟨c, rfl, S2, g2, hc⟩
  have hok : (St.new 100 100 40000 wk).Ok := St.new_ok (by decide) (by decide) (by decide) HB.out.2
  have R2 : Rd c l s 0 (St.new 100 100 40000 wk) w2 := ⟨S2 hlw1, HL1.out.grown g2 (by simp), hok⟩
  have HRB2 := Lib.hid (HRB1.out.gb g2)
  have HC := Lib.hid (Nat.lt_of_lt_of_le HRB1.out.lt hc)
  have KR2 := KR.out c l _ w2 R2 rfl
  have hsw : (St.new 100 100 40000 wk).s = wk := by
    show pos wk = wk
    unfold pos
    rw [if_neg (by have := HB.out.1; omega)]
  obtain ⟨x0, hx0⟩ : ∃ x, St.new 100 100 40000 wk = x := ⟨_, rfl⟩
  have hx0r : x0.r = 0 := by rw [← hx0]; rfl
  have hx0s : x0.s = wk := by rw [← hx0]; exact hsw
  have hx0t : x0.st = 0 := by rw [← hx0]; rfl
  have hx0w : x0.w = 100 ∧ x0.h = 100 ∧ x0.b = 40000 ∧ x0.by_ = 0 := by rw [← hx0]; exact ⟨rfl, rfl, rfl, rfl⟩
  rw [hx0] at R2 KR2
  have KR3 := Lib.hid KR2
  have HX := Lib.hid (And.intro hx0r (And.intro hx0s (And.intro hx0t hx0w)))
  clear S2 g2 hc hok R2 KR2 hsw hx0 hx0r hx0s hx0t hx0w HL1 hlw1
  go_wp2_with fail
  refine KR3.out.mono ?_
  rintro e w3 ⟨q, hq, T3, ⟨rfl, hqa, R3⟩ | ⟨hno, rfl, R3⟩⟩
  · rw [HV.out] at hqa ⊢
    obtain rfl : q = a0 := hqa rfl
    have RB3 := HRB2.out.turned T3 (by simp; have := HL.out; have := HC.out; omega)
    have HRB3 := Lib.hid (RB3.gb (gb_trans (World.grownBy_alloc w3 (.cells #[.int .i64 k, .int .i64 w, .int .i64 h, .int .i64 m, .int .i64 q] 70) none) (World.grownBy_alloc _ (.cells #[.int .i64 0, .int .i64 0, .int .i64 0] 34) none)))
    have H4 : Hc w3.heap.size k w h m q ((w3.alloc (.cells #[.int .i64 k, .int .i64 w, .int .i64 h, .int .i64 m, .int .i64 q] 70)).alloc (.cells #[.int .i64 0, .int .i64 0, .int .i64 0] 34)) := Hc.al blk_at _
    have F4 : Fl (w3.heap.size + 1) 0 0 0 ((w3.alloc (.cells #[.int .i64 k, .int .i64 w, .int .i64 h, .int .i64 m, .int .i64 q] 70)).alloc (.cells #[.int .i64 0, .int .i64 0, .int .i64 0] 34)) := by
      rw [← size_alloc w3 (.cells #[.int .i64 k, .int .i64 w, .int .i64 h, .int .i64 m, .int .i64 q] 70)]
      exact Fl.new _
    have R4 := R3.grown (gb_trans (World.grownBy_alloc w3 (.cells #[.int .i64 k, .int .i64 w, .int .i64 h, .int .i64 m, .int .i64 q] 70) none) (World.grownBy_alloc _ (.cells #[.int .i64 0, .int .i64 0, .int .i64 0] 34) none))
    have hb3 := RB3.lt
    have hcw3 := R3.clt
    have hlw3 := R3.llt
    have c0 := H4.c0
    have c1 := H4.c1
    have c2 := H4.c2
    have c3 := H4.c3
    have c4 := H4.c4
    have HH4 := Lib.hid H4
    have HF4 := Lib.hid F4
    have HR4 := Lib.hid R4
    clear RB3 R3 T3 H4 F4 R4 hqa HRB2 KR3
    simp only [rdT, show ((fmK 0 : Nat) : Int) = 0 from rfl]
    go_wp2_with fail
    generalize (w3.alloc (.cells #[.int .i64 k, .int .i64 w, .int .i64 h, .int .i64 m, .int .i64 q] 70)).alloc (.cells #[.int .i64 0, .int .i64 0, .int .i64 0] 34) = w4 at HRB3 HH4 HF4 HR4 c0 c1 c2 c3 c4 ⊢
    have hr : (stp x0 (readN s)).r = 0 := HX.out.1
    have hst : (stp x0 (readN s)).st = ((readN s : Nat) : Int) := by rw [stp_st, HX.out.2.2.1]; omega
    have hss : (stp x0 (readN s)).s = wk := HX.out.2.1
    have hsd : (stp x0 (readN s)).sides w h = (stp x0 (readN s), true) := sides_ok hr (by have := HG.out.w1; omega) (by show (w : Int) ≤ x0.w; rw [HX.out.2.2.2.1]; omega) (by have := HG.out.h1; omega) (by show (h : Int) ≤ x0.h; rw [HX.out.2.2.2.2.1]; omega)
    have hbb : ((4 * (w * h) : Nat) : Int) ≤ (stp x0 (readN s)).b - (stp x0 (readN s)).by_ := by
      show _ ≤ x0.b - x0.by_
      rw [HX.out.2.2.2.2.2.1, HX.out.2.2.2.2.2.2, HN.out]
      omega
    have htk := tk_take (n := ((4 * (w * h) : Nat) : Int)) hr (by omega) hbb
    have KY := new_yes l (stp x0 (readN s)) w h w4 HR4.out.led HR4.out.ok HG.out.w1 HG.out.w2 HG.out.h1 HG.out.h2 hsd (by rw [htk])
    rw [htk] at KY
    have HOK := Lib.hid (tk_ok HR4.out.ok hr (by omega) hbb)
    obtain ⟨x1, hx1⟩ : ∃ x1, tk (stp x0 (readN s)) ((4 * (w * h) : Nat) : Int) = x1 := ⟨_, rfl⟩
    have h1r : x1.r = 0 := by rw [← hx1]; exact hr
    have h1s : x1.s = wk := by rw [← hx1]; exact hss
    have h1t : x1.st = ((readN s : Nat) : Int) := by rw [← hx1]; exact hst
    rw [hx1] at KY HOK
    have KY2 := Lib.hid KY
    have H1 := Lib.hid (And.intro h1r (And.intro h1s h1t))
    clear hr hst hss hsd hbb htk KY hx1 h1r h1s h1t
    refine KY2.out.mono ?_
    rintro e w5 ⟨r, cb, g, rfl, O5, L5, g5, hr5, hcb5, hg5⟩
    have RB5 := HRB3.out.turned (Tn.gb g5 (S := [l]) (by simp)) (by simp; exact HL.out)
    have H5 := HH4.out.turned (Tn.gb g5 (S := [l]) (by simp)) (by simp; omega)
    have F5 := HF4.out.turned (Tn.gb g5 (S := [l]) (by simp)) (by simp; omega)
    have R5 : Rd c l s q x1 w5 := ⟨HR4.out.so.turned (Tn.gb g5 (S := [l]) (by simp)) (by simpa using HR4.out.so.bl), L5, HOK.out⟩
    have rlt := O5.lt
    have clt := O5.buf.lt
    have glt := O5.buf.glt
    have hbg := O5.buf.bg
    have hrg := O5.rg
    have hc4 := HR4.out.clt
    have hl4 := HR4.out.llt
    have z5 := g5.size
    have fs : FS w5 [c, l] c l r cb g := ⟨by simp; omega, by simp, by simp, by simp; omega, by simp; omega, by simp; omega, hrg, hbg, glt, rlt, clt⟩
    have hz5 : rb [] (w * h) = Bu.rep 0 (4 * (w * h)) := rb_nil _
    have K0 := rawread_calls k c l r cb g s x1 w h m q (q : Int) w5 (by have h1 := HG.out.k6; have h2 := HK.out; omega) fs HG.out.w2 HG.out.h2 ⟨HG.out.m1, HG.out.m2⟩ H1.out.1 R5 (by rw [hz5]; exact O5)
    have flt4 := HF4.out.lt
    have hlt4 := HH4.out.lt
    have hrb5 := RB5.lt
    clear c0 c1 c2 c3 c4
    have c0 := H5.c0
    have c1 := H5.c1
    have c2 := H5.c2
    have c3 := H5.c3
    have c4 := H5.c4
    have p0 := F5.c0
    have p1 := F5.c1
    have p2 := F5.c2
    have pf0 := F5.free 0
    have pf1 := F5.free 1
    have pf2 := F5.free 2
    have K1 := Lib.hid K0
    have HRB5 := Lib.hid RB5
    have HF5 := Lib.hid F5
    have HG5 := Lib.hid (And.intro hr5 (And.intro hcb5 hg5))
    clear RB5 H5 F5 R5 O5 L5 g5 fs hz5 K0 HRB3 HH4 HR4 KY2 hr5 hcb5 hg5 hbg hrg
    go_wp2_with fail
    refine K1.out.mono ?_
    rintro e w6 ⟨T6, H6⟩
    have hgT : ∀ k, k ∈ [g, c, l] → W.heap.size + 1 < k := by
      have h1 := HL.out
      have h2 := HC.out
      have h3 := HG5.out.2.2
      have h4 := hb3
      simp
      omega
    have RB6 := HRB5.out.turned T6 hgT
    have F6 := HF5.out.turned T6 (by have := HG5.out.2.2; simp; omega)
    clear p0 p1 p2 pf0 pf1 pf2 c0 c1 c2 c3 c4
    have p0 := F6.c0
    have p1 := F6.c1
    have p2 := F6.c2
    have pf0 := F6.free 0
    have pf1 := F6.free 1
    have pf2 := F6.free 2
    have z6 := T6.size
    have HRB6 := Lib.hid RB6
    have HF6 := Lib.hid F6
    have nf0 : ¬ w3.heap.size + 1 = W.heap.size := by omega
    have nf1 : ¬ W.heap.size = w3.heap.size + 1 := by omega
    have nf2 : ¬ w3.heap.size + 1 = W.heap.size + 1 := by omega
    have nf3 : ¬ W.heap.size + 1 = w3.heap.size + 1 := by omega
    clear RB6 F6 K1 HRB5 HF5
    rcases H6 with ⟨z0, rfl, R6, O6⟩ | ⟨fk, fm, fa, qq, y, R0, bd, rfl, R6, O6⟩
    · have g9 : g < w6.heap.size := by omega
      have n9 : ∀ k, k < w3.heap.size + 1 → k ∉ [w3.heap.size + 1] := fun k hk => by simp; omega
      have TT : Tn w6 (((w6.setCell ⟨w3.heap.size + 1, 0, none⟩ (.int .i64 0)).setCell ⟨w3.heap.size + 1, 1, none⟩ (.int .i64 0)).setCell ⟨w3.heap.size + 1, 2, none⟩ (.int .i64 0)) [w3.heap.size + 1] := (((Tn.refl _ _).st (by simp)).st (by simp)).st (by simp)
      have HRB7 := Lib.hid (HRB6.out.turned TT (by simp; omega))
      have HF7 := Lib.hid (HF6.out.set 0 0 0)
      have HO7 := Lib.hid (ro_turn O6 TT (by have := HG5.out.1; simp; omega) (by have := HG5.out.2.1; simp; omega) (by have := HG5.out.2.2; simp; omega))
      have HR7 := Lib.hid (rdt R6 TT (n9 c (by omega)) (n9 l (by omega)))
      have HZ := Lib.hid z0
      clear R6 O6 TT z0
      simp only [okF]
      go_wp2_with fail
      generalize ((w6.setCell ⟨w3.heap.size + 1, 0, none⟩ (.int .i64 0)).setCell ⟨w3.heap.size + 1, 1, none⟩ (.int .i64 0)).setCell ⟨w3.heap.size + 1, 2, none⟩ (.int .i64 0) = w7 at HRB7 HF7 HO7 HR7 ⊢
      clear p0 p1 p2 pf0 pf1 pf2
      have KI := image_yes r l cb g w h _ w7 HO7.out
      have hsz := HO7.out.sz
      have hcl := HO7.out.buf.bl
      rw [hsz] at KI
      have KI := Lib.hid KI
      have cbl := HO7.out.buf.lt
      clear hsz
      refine KI.out.mono ?_
      rintro e w8 ⟨rfl, b8, T8⟩
      have RB8 := HRB7.out.turned T8 (by simp; have := HG5.out.2.1; omega)
      have F8 := HF7.out.turned T8 (by simp; have := HG5.out.2.1; omega)
      have L8 := HR7.out.led.turned T8 (by simpa using hcl.symm)
      have b9 : (w8.alloc (.cells #[.int .i64 w, .int .i64 h, .slice (some ⟨g, 0, none⟩) (4 * (w * h)) (4 * (w * h))] 32)).heap[w8.heap.size]? = _ := blk_at
      have j0 := blk_cell b9 0
      have j1 := blk_cell b9 1
      have j2 := blk_cell b9 2
      simp only [List.getElem?_toArray, List.getElem?_cons_succ, List.getElem?_cons_zero] at j0 j1 j2
      have z8 := T8.size
      have RB9 := RB8.gb (World.grownBy_alloc w8 (.cells #[.int .i64 w, .int .i64 h, .slice (some ⟨g, 0, none⟩) (4 * (w * h)) (4 * (w * h))] 32) none)
      have F9 := Ph.Fl.al F8 (.cells #[.int .i64 w, .int .i64 h, .slice (some ⟨g, 0, none⟩) (4 * (w * h)) (4 * (w * h))] 32)
      have i0 := RB9.i0
      have i1 := RB9.i1
      have i2 := RB9.i2
      have if0 := RB9.ifr 0
      have if1 := RB9.ifr 1
      have if2 := RB9.ifr 2
      have r0 := RB9.fl.c0
      have r1 := RB9.fl.c1
      have r2 := RB9.fl.c2
      have rf0 := RB9.fl.free 0
      have rf1 := RB9.fl.free 1
      have rf2 := RB9.fl.free 2
      have p0 := F9.c0
      have p1 := F9.c1
      have p2 := F9.c2
      have m0 : ¬ w8.heap.size = W.heap.size := by have := RB8.lt; omega
      have m1 : ¬ W.heap.size = w8.heap.size := by have := RB8.lt; omega
      have m2 : ¬ w8.heap.size = W.heap.size + 1 := by have := RB8.lt; omega
      have m3 : ¬ W.heap.size + 1 = w8.heap.size := by have := RB8.lt; omega
      have HRB9 := Lib.hid RB9
      have HB9 := Lib.hid (blk_al b8 (.cells #[.int .i64 w, .int .i64 h, .slice (some ⟨g, 0, none⟩) (4 * (w * h)) (4 * (w * h))] 32))
      have HL9 := Lib.hid (L8.grown (World.grownBy_alloc w8 (.cells #[.int .i64 w, .int .i64 h, .slice (some ⟨g, 0, none⟩) (4 * (w * h)) (4 * (w * h))] 32) none) (by simp))
      have HL8 := Lib.hid L8.lt
      clear RB8 F8 L8 b9 RB9 F9 b8 T8 KI
      go_wp2_with fail
      generalize w8.alloc (.cells #[.int .i64 w, .int .i64 h, .slice (some ⟨g, 0, none⟩) (4 * (w * h)) (4 * (w * h))] 32) = w9 at j0 j1 j2 i0 i1 i2 if0 if1 if2 r0 r1 r2 rf0 rf1 rf2 p0 p1 p2 HRB9 HB9 HL9 ⊢
      go_region
      go_wp2
      refine bodyPost_ret (v := .tuple #[.agg #[.int .i64 w, .int .i64 h, .slice (some ⟨g, 0, none⟩) (4 * (w * h)) (4 * (w * h))], okF, .pointer (some ⟨l, 0, none⟩), .bool true]) (by simp only [results, Tryz.results18, okF]; go_simp) rfl ?_
      rw [← HQ.out]
      refine ⟨_, _, _, _, rfl, _, ?_, HR7.out.ok, ?_, gb_trans HRB9.out.end (gb_drew _ _), .inl ⟨HZ.out, rfl, ⟨g, rfl, ?_⟩, rfl, H1.out.1, ?_⟩⟩
      · exact Led.drew (HL9.out.turned (RB.tn w9) (by have := HL.out; simp; omega))
      · exact H1.out.2.1
      · exact ((RB.tn w9).block g (blk_lt HB9.out) (by have := HG5.out.2.2; simp; omega)).trans HB9.out
      · rw [stp_st, H1.out.2.2]
        omega
    · have hk := bd.kne
      have d2 : (fk != 0) = true := by rw [bne_iff_ne]; exact hk
      have g9 : g < w6.heap.size := by omega
      have n9 : ∀ k, k < w3.heap.size + 1 → k ∉ [w3.heap.size + 1] := fun k hk => by simp; omega
      have TT : Tn w6 (((w6.setCell ⟨w3.heap.size + 1, 0, none⟩ (.int .i64 fk)).setCell ⟨w3.heap.size + 1, 1, none⟩ (.int .i64 fm)).setCell ⟨w3.heap.size + 1, 2, none⟩ (.int .i64 fa)) [w3.heap.size + 1] := (((Tn.refl _ _).st (by simp)).st (by simp)).st (by simp)
      have HRB7 := Lib.hid (HRB6.out.turned TT (by simp; omega))
      have HF7 := Lib.hid (HF6.out.set fk fm fa)
      have HR7 := Lib.hid (rdt R6 TT (n9 c (by omega)) (n9 l (by omega)))
      have HBD := Lib.hid (rn_bad (x := x0) bd H1.out.2.1 H1.out.2.2 H1.out.1)
      clear R6 O6 TT bd hk
      go_wp2_with fail
      generalize ((w6.setCell ⟨w3.heap.size + 1, 0, none⟩ (.int .i64 fk)).setCell ⟨w3.heap.size + 1, 1, none⟩ (.int .i64 fm)).setCell ⟨w3.heap.size + 1, 2, none⟩ (.int .i64 fa) = w7 at HRB7 HF7 HR7 ⊢
      clear p0 p1 p2 pf0 pf1 pf2
      have p0 := HF7.out.c0
      have p1 := HF7.out.c1
      have p2 := HF7.out.c2
      have i0 := HRB7.out.i0
      have i1 := HRB7.out.i1
      have i2 := HRB7.out.i2
      have if0 := HRB7.out.ifr 0
      have if1 := HRB7.out.ifr 1
      have if2 := HRB7.out.ifr 2
      have r0 := HRB7.out.fl.c0
      have r1 := HRB7.out.fl.c1
      have r2 := HRB7.out.fl.c2
      have rf0 := HRB7.out.fl.free 0
      have rf1 := HRB7.out.fl.free 1
      have rf2 := HRB7.out.fl.free 2
      go_region
      go_wp2
      refine bodyPost_ret (v := .tuple #[img0, .agg #[.int .i64 fk, .int .i64 fm, .int .i64 fa], .pointer (some ⟨l, 0, none⟩), .bool true]) (by simp only [results, Tryz.results18, img0]; go_simp) rfl ?_
      rw [← HQ.out]
      refine ⟨_, _, _, _, rfl, y, ?_, HR7.out.ok, HBD.out.1, gb_trans HRB7.out.end (gb_drew _ _), .inr ?_⟩
      · exact Led.drew (HR7.out.led.turned (RB.tn w7) (by have := HL.out; simp; omega))
      · rcases HBD.out.2 with ⟨e1, e2, e3⟩ | ⟨e1, e2, e3⟩
        · exact .inl ⟨e1, rfl, rfl, e2, e3⟩
        · exact .inr ⟨e1, rfl, e2, e3⟩
  · have RB3 := HRB2.out.turned T3 (by simp; have := HL.out; have := HC.out; omega)
    have RB4 := RB3.gb (gb_trans (World.grownBy_alloc w3 (.cells #[.int .i64 0, .int .i64 0, .int .i64 0, .int .i64 0, .int .i64 0] 70) none) (World.grownBy_alloc _ (.cells #[.int .i64 4, .int .i64 3, .int .i64 q] 34) none))
    have F4 : Fl (w3.heap.size + 1) 4 3 q ((w3.alloc (.cells #[.int .i64 0, .int .i64 0, .int .i64 0, .int .i64 0, .int .i64 0] 70)).alloc (.cells #[.int .i64 4, .int .i64 3, .int .i64 q] 34)) := by
      rw [← size_alloc w3 (.cells #[.int .i64 0, .int .i64 0, .int .i64 0, .int .i64 0, .int .i64 0] 70)]
      exact blk_at
    have R4 := R3.grown (gb_trans (World.grownBy_alloc w3 (.cells #[.int .i64 0, .int .i64 0, .int .i64 0, .int .i64 0, .int .i64 0] 70) none) (World.grownBy_alloc _ (.cells #[.int .i64 4, .int .i64 3, .int .i64 q] 34) none))
    have hb3 := RB3.lt
    have p0 := F4.c0
    have p1 := F4.c1
    have p2 := F4.c2
    have i0 := RB4.i0
    have i1 := RB4.i1
    have i2 := RB4.i2
    have if0 := RB4.ifr 0
    have if1 := RB4.ifr 1
    have if2 := RB4.ifr 2
    have r0 := RB4.fl.c0
    have r1 := RB4.fl.c1
    have r2 := RB4.fl.c2
    have rf0 := RB4.fl.free 0
    have rf1 := RB4.fl.free 1
    have rf2 := RB4.fl.free 2
    have m0 : ¬ w3.heap.size + 1 = W.heap.size := by omega
    have m1 : ¬ W.heap.size = w3.heap.size + 1 := by omega
    have m2 : ¬ w3.heap.size + 1 = W.heap.size + 1 := by omega
    have m3 : ¬ W.heap.size + 1 = w3.heap.size + 1 := by omega
    have HRB4 := Lib.hid RB4
    have HR4 := Lib.hid R4
    have HNO := Lib.hid hno
    clear RB3 RB4 F4 R4 R3 T3 hno HRB2 KR3
    simp only [fdT]
    go_wp2_with fail
    generalize (w3.alloc (.cells #[.int .i64 0, .int .i64 0, .int .i64 0, .int .i64 0, .int .i64 0] 70)).alloc (.cells #[.int .i64 4, .int .i64 3, .int .i64 q] 34) = w4 at p0 p1 p2 i0 i1 i2 if0 if1 if2 r0 r1 r2 rf0 rf1 rf2 HRB4 HR4 ⊢
    go_region
    go_wp2
    refine bodyPost_ret (v := .tuple #[img0, .agg #[.int .i64 4, .int .i64 3, .int .i64 q], .pointer (some ⟨l, 0, none⟩), .bool false]) (by simp only [results, Tryz.results18, img0]; go_simp) rfl ?_
    rw [← HQ.out]
    refine ⟨_, _, _, _, rfl, _, ?_, HR4.out.ok, HX.out.2.1, gb_trans HRB4.out.end (gb_drew _ _), .inr (.inr ⟨?_, rfl, ⟨q, hq, rfl⟩, rfl, HX.out.2.1⟩)⟩
    · exact Led.drew (HR4.out.led.turned (RB.tn w4) (by have := HL.out; simp; omega))
    · have := HNO.out
      rw [HX.out.2.1, HX.out.2.2.1] at this
      omega

end Go.Proofs.YtcfdippcobkbaaaGreat.Px
