/- Farbfeld: a raster is filled, by any ledger. -/
import Derived.Test.YtjdhlehpoclnjaaGreatFf1
import Derived.Test.YtjdhlehpoclnjaaGreatRk1
namespace Go.Proofs.YtjdhlehpoclnjaaGreat.Ff
open Go.ChangeShapes Go.WideShapes Go.ChangeAt Go.RowKit
open Go.Proofs.YtjdhlehpoclnjaaGreat.Le Go.Proofs.YtjdhlehpoclnjaaGreat.Tk Go.Proofs.YtjdhlehpoclnjaaGreat.Sr Go.Proofs.YtjdhlehpoclnjaaGreat.Sc Go.Proofs.YtjdhlehpoclnjaaGreat.Ra Go.Proofs.YtjdhlehpoclnjaaGreat.Sh
set_option linter.unusedVariables false

theorem fspent_calls (c l : Nat) (s : ByteArray) (p : Nat) (x : St) (W : World) (R : Rd c l s p x W) : Calls Tryz.prog 62 #[.pointer (some ⟨c, 0, none⟩)] W fun e w' => e = .returned (flF 6 4 p) ∧ W.grownBy w' none := by
  have KA := Lib.hid (at_rd c l s p x _ (R.grown (World.grownBy_alloc W (.cells #[.int .i64 0, .int .i64 0, .int .i64 0] 29) none)))
  have F0 := Fl.new W
  have q0 := F0.c0
  have q1 := F0.c1
  have q2 := F0.c2
  have qf0 := F0.free 0
  have qf1 := F0.free 1
  have qf2 := F0.free 2
  have HG := Lib.hid (World.grownBy_alloc W (.cells #[.int .i64 0, .int .i64 0, .int .i64 0] 29) none)
  clear R F0
  unfold flF
  go_enter Tryz.func62, Tryz.ntmps62
  go_wp2_with fail
  generalize W.alloc (.cells #[.int .i64 0, .int .i64 0, .int .i64 0] 29) = w0 at KA q0 q1 q2 qf0 qf1 qf2 HG ⊢
  refine KA.out.mono ?_
  rintro e w' ⟨rfl, rfl⟩
  go_wp2
  refine bodyPost_ret (v := .agg #[.int .i64 4, .int .i64 6, .int .i64 p]) (by simp only [results, Tryz.results62]; go_simp) rfl ⟨rfl, ?_⟩
  have t6 : Tn w0 (((w0.setCell ⟨W.heap.size, 0, none⟩ (.int .i64 4)).setCell ⟨W.heap.size, 1, none⟩ (.int .i64 6)).setCell ⟨W.heap.size, 2, none⟩ (.int .i64 p)) [W.heap.size] := (((Tn.refl w0 [W.heap.size]).st (by simp)).st (by simp)).st (by simp)
  exact Tn.own HG.out t6 (by intro i hi; simp at hi; left; omega)

/-- A pixel's channels. -/
def cF (s : ByteArray) (k j : Nat) : Int := nf s (16 + 8 * k + 2 * j)
theorem cF_bd (s : ByteArray) (k j : Nat) : 0 ≤ cF s k j ∧ cF s k j ≤ 255 := nf_bd s _
theorem nf_ext (s : ByteArray) (k j : Nat) (h : j ≤ 3) : nf (s.extract (16 + 8 * k) (16 + 8 * k + 8)) (2 * j) = cF s k j := by
  unfold nf cF nf n2
  rw [ByteArray.extract_extract]
  congr 4
  omega
/-- What a fill carries: i pixels are set. -/
structure FI (W : World) (c l r cb g sb gw gh : Nat) (s : ByteArray) (x : St) (n i : Nat) (w : World) : Prop where
  rd : Rd c l s (16 + 8 * i) (stp x (2 * i)) w
  ro : Ro r l cb g gw gh (rk (cF s) n i) w
  sq : Sq W.heap.size sb 65535 w
  fl : Fl W.heap.size 0 0 0 w
  tn : Tn W w [c, l, g]
set_option maxRecDepth 100000 in
set_option maxHeartbeats 4000000 in
theorem fill_calls (c l r cb g gw gh n K f p N : Nat) (s : ByteArray) (x : St) (W : World) (B : FB W c l r cb g) (hw : gw ≤ 16384) (hh : gh ≤ 16384) (hn : gw * gh = n) (hr : x.r = 0) (h16 : 16 ≤ s.size)
    (R : Rd c l s 16 x W) (O : Ro r l cb g gw gh (Bu.rep 0 (4 * n)) W)
    (hK : (K = n ∧ 16 + 8 * n ≤ s.size ∧ f = 0 ∧ N = 2 * n) ∨ (K < n ∧ 16 + 8 * K ≤ s.size ∧ s.size < 16 + 8 * K + 8 ∧ f = 1 ∧ p = s.size ∧ N = 2 * K + 1)) :
    Calls Tryz.prog 63 #[.pointer (some ⟨c, 0, none⟩), .pointer (some ⟨r, 0, none⟩)] W (FO 6 W c l r cb g gw gh (cF s) s x f p N n) := by
  obtain ⟨Q, hQ⟩ : ∃ Q, FO 6 W c l r cb g gw gh (cF s) s x f p N n = Q := ⟨_, rfl⟩
  rw [hQ]
  have HQ := Lib.hid hQ
  have HB := Lib.hid B
  have g0 := World.grownBy_alloc W (.cells #[.int .i64 0, .int .i64 0, .int .i64 0] 29) none
  have R0 := R.grown g0
  have O0 := O.grown g0 (by simp) (by simp) (by simp)
  have F0 := Fl.new W
  have KN := Lib.hid (sq_new 65535 W.heap.size (W.alloc (.cells #[.int .i64 0, .int .i64 0, .int .i64 0] 29)) g0.size (by decide) (by decide))
  have HG0 := Lib.hid g0
  have HR0 := Lib.hid R0
  have HO0 := Lib.hid O0
  have HF0 := Lib.hid F0
  have HK := Lib.hid hK
  have HX := Lib.hid (And.intro hr (And.intro hn h16))
  have z0 : (W.alloc (.cells #[.int .i64 0, .int .i64 0, .int .i64 0] 29)).heap.size = W.heap.size + 1 := size_alloc _ _
  have HZ0 := Lib.hid z0
  clear hQ g0 R0 O0 F0 B R O hK hr hn h16 z0
  go_enter Tryz.func63, Tryz.ntmps63
  go_wp2_with fail
  generalize W.alloc (.cells #[.int .i64 0, .int .i64 0, .int .i64 0] 29) = w0 at KN HG0 HR0 HO0 HF0 HZ0 ⊢
  refine KN.out.mono ?_
  rintro e w1 ⟨sb, rfl, S1, g1, hsb⟩
  have HSB := Lib.hid (show W.heap.size < sb by have := HZ0.out; omega)
  have I1 := Lib.hid (show FI W c l r cb g sb gw gh s x n 0 w1 from ⟨show Rd c l s 16 (stp x 0) w1 by rw [stp_0]; exact HR0.out.grown g1, HO0.out.grown g1 (by simp) (by simp) (by simp), S1, HF0.out.turned (Tn.gb g1 (S := []) (by simp)) (by simp), Tn.gb (gb_trans HG0.out g1) (by simp)⟩)
  have KH := Lib.hid (height_calls r l cb g gw gh _ w1 I1.out.ro)
  clear S1 g1 hsb KN HG0 HR0 HO0 HF0 HZ0
  go_wp2_with fail
  refine KH.out.mono ?_
  rintro e w' ⟨rfl, rfl⟩
  clear KH
  go_wp2_with fail
  go_loopg [17] gh (fun q yv wr => ∃ y : Nat, y ≤ gh ∧ q = gh - y ∧ yv = .int .i64 y ∧ FI W c l r cb g sb gw gh s x n (y * gw) wr)
  case atStart => exact ⟨0, Nat.zero_le _, rfl, rfl, by rw [Nat.zero_mul]; exact I1.out⟩
  case round =>
    obtain ⟨y, hyh, rfl, rfl, I⟩ := hrel
    have HI := Lib.hid I
    clear I I1
    by_cases hy : y < gh
    · have d0 : decide ((y : Int) < (gh : Int)) = true := decide_eq_true (by omega)
      have KW := Lib.hid (width_calls r l cb g gw gh _ wr HI.out.ro)
      go_wp2_with fail
      refine KW.out.mono ?_
      rintro e w' ⟨rfl, rfl⟩
      clear KW
      go_wp2_with fail
      go_loopg [22] gw (fun q xv wr2 => ∃ x' : Nat, x' ≤ gw ∧ q = gw - x' ∧ xv = .int .i64 x' ∧ FI W c l r cb g sb gw gh s x n (y * gw + x') wr2)
      case atStart => exact ⟨0, Nat.zero_le _, rfl, rfl, by rw [Nat.add_zero]; exact HI.out⟩
      case round =>
        clear HI
        obtain ⟨x', hxw, rfl, rfl, I⟩ := hrel
        have HI := Lib.hid I
        clear I
        by_cases hx : x' < gw
        · have d1 : decide ((x' : Int) < (gw : Int)) = true := decide_eq_true (by omega)
          obtain ⟨i, hi⟩ : ∃ i, y * gw + x' = i := ⟨_, rfl⟩
          rw [hi] at HI
          have hiN : i < n := by
            have h1 := Nat.mul_le_mul_right gw (show y + 1 ≤ gh by omega)
            rw [Nat.add_mul, Nat.one_mul] at h1
            have h2 := HX.out.2.1
            rw [Nat.mul_comm gw gh] at h2
            omega
          have HP := Lib.hid (And.intro hi hiN)
          have hrr : (stp x (2 * i)).r = 0 := HX.out.1
          by_cases hrd : 16 + 8 * i + 8 ≤ s.size ∧ (stp x (2 * i)).st + 1 ≤ (stp x (2 * i)).s
          · have KT := Lib.hid (take_y HI.out.rd hrr hrd.2 8 hrd.1)
            have hz : (s.extract (16 + 8 * i) (16 + 8 * i + 8)).size = 8 := by rw [ByteArray.size_extract]; omega
            have KC := fun u (hb : sb < u.heap.size) (S : Sq W.heap.size sb 65535 u) => color_calls W.heap.size sb (s.extract (16 + 8 * i) (16 + 8 * i + 8)) u hz hb S
            have e0 := nf_ext s i 0 (by decide)
            have e1 := nf_ext s i 1 (by decide)
            have e2 := nf_ext s i 2 (by decide)
            have e3 := nf_ext s i 3 (by decide)
            simp only [Nat.mul_zero, Nat.reduceMul] at e0 e1 e2 e3
            rw [e0, e1, e2, e3] at KC
            obtain ⟨zz, hzz⟩ : ∃ z, s.extract (16 + 8 * i) (16 + 8 * i + 8) = z := ⟨_, rfl⟩
            rw [hzz] at KT KC
            have KC := Lib.hid KC
            have HRD := Lib.hid hrd
            clear hzz hz e0 e1 e2 e3 hrd hi hiN
            go_wp2_with fail
            refine KT.out.mono ?_
            rintro e w2 ⟨rfl, R2, T2⟩
            have B := HB.out
            have s2 := HI.out.sq.turned T2 (by have h1 := HSB.out; have h2 := B.pc; have h3 := B.pl; simp; omega) (by intro k hk; simp at hk; have h2 := B.pc; have h3 := B.pl; omega)
            have o2 := ro_t HI.out.ro T2 (by have := B.ncr; have := B.nlr; simp; omega) (by have := B.ncb; have := B.nlb; simp; omega) (by have := B.ncg; have := B.nlg; simp; omega)
            have f2 := HI.out.fl.turned T2 (by have h2 := B.pc; have h3 := B.pl; simp; omega)
            have t2 := HI.out.tn.trans (T2.mono (by intro k hk; simp at hk ⊢; omega))
            have HS2 := Lib.hid s2
            have HO2 := Lib.hid o2
            have HF2 := Lib.hid f2
            have HT2 := Lib.hid t2
            have HR2 := Lib.hid R2
            have hk2 := Lib.hid (KC.out w2 s2.lt s2)
            clear B s2 o2 f2 t2 R2 T2 KT KC HI
            go_wp2_with fail
            refine hk2.out.mono ?_
            rintro e w3 ⟨rfl, S3, T3⟩
            have hsb := HSB.out
            have B := HB.out
            have b1 := B.pc
            have b2 := B.pl
            have b3 := B.pr
            have b4 := B.pb
            have b5 := B.pg
            have R3 := rd_own HR2.out T3 (by simp; omega) (by simp; omega)
            have o3 := ro_t HO2.out T3 (by simp; omega) (by simp; omega) (by simp; omega)
            have f3 := HF2.out.turned T3 (by simp; omega)
            have t3 := HT2.out.over T3 (by intro k hk; simp at hk; left; omega)
            have HS3 := Lib.hid S3
            have HF3 := Lib.hid f3
            have HT3 := Lib.hid t3
            have HR3 := Lib.hid R3
            have HO3 := Lib.hid o3
            clear S3 f3 t3 T3 R3 o3 hk2 HS2 HO2 HF2 HT2 HR2 hsb B b1 b2 b3 b4 b5
            have hr3 : (stp (stp x (2 * i)) 1).r = 0 := hrr
            by_cases hk : (stp (stp x (2 * i)) 1).st + 1 ≤ (stp (stp x (2 * i)) 1).s
            · have K := set_at r l cb g gw gh n i x' y (cF s) _ w3 (fun j => cF_bd s i j) hx hy hw hh HP.out.1 HO3.out HR3.out.led HR3.out.ok hr3 hk
              unfold colV at K
              have K := Lib.hid K
              go_wp2_with fail
              refine K.out.mono ?_
              rintro e w4 ⟨rfl, ⟨O4, L4⟩, T4⟩
              have B := HB.out
              have b1 := B.pc
              have b2 := B.pl
              have b3 := B.pg
              have b4 := B.ncl
              have b5 := B.ncg
              have hsb := HSB.out
              have R4 : Rd c l s (16 + 8 * (i + 1)) (stp x (2 * (i + 1))) w4 := by
                have ok := stp_ok HR3.out.ok hr3 hk
                have e : stp (stp (stp x (2 * i)) 1) 1 = stp x (2 * (i + 1)) := by rw [stp_stp, stp_stp]; congr 1
                rw [e] at L4 ok
                have e2 : 16 + 8 * i + 8 = 16 + 8 * (i + 1) := by omega
                have so := HR3.out.so.turned T4 (by simp; omega)
                rw [e2] at so
                exact ⟨so, L4, ok⟩
              have I4 := Lib.hid (show FI W c l r cb g sb gw gh s x n (i + 1) w4 from ⟨R4, O4, HS3.out.turned T4 (by simp; omega) (by intro k hk; simp at hk; omega), HF3.out.turned T4 (by simp; omega), HT3.out.trans (T4.mono (by intro k hk; simp at hk ⊢; omega))⟩)
              have HP2 := Lib.hid (show y * gw + (x' + 1) = i + 1 by have := HP.out.1; omega)
              clear O4 L4 T4 B b1 b2 b3 b4 b5 hsb R4 K hk
              go_wp2
              go_roundg (gw - (x' + 1))
              case measure => omega
              case rel => exact ⟨x' + 1, by omega, rfl, by go_num, by rw [HP2.out]; exact I4.out⟩
            · have hk' : (stp (stp x (2 * i)) 1).s < (stp (stp x (2 * i)) 1).st + 1 := by omega
              have K := set_no r l cb g gw gh i x' y (cF s) _ _ w3 hx hy hw hh HP.out.1 HO3.out HR3.out.led HR3.out.ok hr3 hk'
              unfold colV at K
              have K := Lib.hid K
              go_wp2_with fail
              refine K.out.mono ?_
              rintro e w4 ⟨rfl, ⟨O4, L4⟩, T4⟩
              have B := HB.out
              have b1 := B.pc
              have b2 := B.pl
              have b3 := B.pg
              have b4 := B.ncl
              have b5 := B.ncg
              have R4 : Rd c l s (16 + 8 * i + 8) (spent x) w4 := by
                have ok := spent_ok HR3.out.ok hr3 hk'
                rw [stp_spent, stp_spent] at L4 ok
                exact ⟨HR3.out.so.turned T4 (by simp; omega), L4, ok⟩
              have F4 := HF3.out.turned T4 (by simp; omega)
              have T5 := HT3.out.trans (T4.mono (by intro k hk; simp at hk ⊢; omega))
              have KS := Lib.hid (fspent_calls c l s (16 + 8 * i + 8) (spent x) w4 R4)
              have HR4 := Lib.hid R4
              have HO4 := Lib.hid O4
              have HF4 := Lib.hid F4
              have HT5 := Lib.hid T5
              have hNN : x.s < x.st + (N : Int) := by
                have e1 : (stp (stp x (2 * i)) 1).s = x.s := rfl
                have e2 : (stp (stp x (2 * i)) 1).st = x.st + ((2 * i : Nat) : Int) + ((1 : Nat) : Int) := rfl
                rw [e1, e2] at hk'
                have h3 := HP.out.2
                have h4 := HRD.out.1
                rcases HK.out with ⟨k1, k2, k3, k4⟩ | ⟨k1, k2, k3, k4, k5, k6⟩ <;> omega
              have HNN := Lib.hid hNN
              clear O4 L4 T4 B b1 b2 b3 b4 b5 R4 K hk hk' F4 T5 hNN
              go_wp2_with fail
              refine KS.out.mono ?_
              rintro e w5 ⟨rfl, g5⟩
              have F5 := HF4.out.turned (Tn.gb g5 (S := []) (by simp)) (by simp)
              have q0 := F5.c0
              have q1 := F5.c1
              have q2 := F5.c2
              have qf0 := F5.free 0
              have qf1 := F5.free 1
              have qf2 := F5.free 2
              have HG5 := Lib.hid g5
              unfold flF
              clear F5 g5
              go_wp2
              refine bodyPost_ret (v := flF 6 4 (16 + 8 * i + 8 : Nat)) (by simp only [results, Tryz.results63, flF]; go_simp) rfl ?_
              rw [← HQ.out]
              have t6 : Tn w5 (((w5.setCell ⟨W.heap.size, 0, none⟩ (.int .i64 4)).setCell ⟨W.heap.size, 1, none⟩ (.int .i64 6)).setCell ⟨W.heap.size, 2, none⟩ (.int .i64 (16 + 8 * i + 8 : Nat))) [W.heap.size] := (((Tn.refl w5 [W.heap.size]).st (by simp)).st (by simp)).st (by simp)
              have B := HB.out
              have b1 := B.pc
              have b2 := B.pl
              have b3 := B.pr
              have b4 := B.pb
              have b5 := B.pg
              have T7 := (HT5.out.trans (Tn.gb HG5.out (by simp))).over t6 (by intro i hi; simp at hi; left; omega)
              have O7 := ro_t (HO4.out.grown HG5.out (by simp) (by simp) (by simp)) t6 (by simp; omega) (by simp; omega) (by simp; omega)
              exact ⟨_, _, rd_own (HR4.out.grown HG5.out) t6 (by simp; omega) (by simp; omega), T7, lm_spent x, rfl, ⟨_, O7⟩, .inr (.inr ⟨HNN.out, ⟨16 + 8 * i + 8, HRD.out.1, rfl⟩, by show (3 : Int) ≠ 0; decide⟩)⟩
          · obtain ⟨y2, k2, j2, hno, KT, KF⟩ := take_n HI.out.rd hrr 8 (by omega)
            have KT := Lib.hid KT
            have KF := Lib.hid KF
            have HNO := Lib.hid hno
            have HRD := Lib.hid hrd
            clear hno hrd hi hiN
            go_wp2_with fail
            refine KT.out.mono ?_
            rintro e w2 ⟨rfl, R2, T2⟩
            have B := HB.out
            have o2 := ro_t HI.out.ro T2 (by have := B.ncr; have := B.nlr; simp; omega) (by have := B.ncb; have := B.nlb; simp; omega) (by have := B.ncg; have := B.nlg; simp; omega)
            have f2 := HI.out.fl.turned T2 (by have h2 := B.pc; have h3 := B.pl; simp; omega)
            have t2 := HI.out.tn.trans (T2.mono (by intro k hk; simp at hk ⊢; omega))
            have HO2 := Lib.hid o2
            have HF2 := Lib.hid f2
            have HT2 := Lib.hid t2
            have KF2 := Lib.hid (KF.out 6 w2 R2)
            clear B o2 f2 t2 R2 T2 KT KF
            go_wp2_with fail
            refine KF2.out.mono ?_
            rintro e w5 ⟨rfl, R5, g5⟩
            have F5 := HF2.out.turned (Tn.gb g5 (S := []) (by simp)) (by simp)
            have q0 := F5.c0
            have q1 := F5.c1
            have q2 := F5.c2
            have qf0 := F5.free 0
            have qf1 := F5.free 1
            have qf2 := F5.free 2
            have HG5 := Lib.hid g5
            have HR5 := Lib.hid R5
            clear F5 g5 R5
            go_wp2
            refine bodyPost_ret (v := flF 6 k2 j2) (by simp only [results, Tryz.results63, flF]; go_simp) rfl ?_
            rw [← HQ.out]
            have t6 : Tn w5 (((w5.setCell ⟨W.heap.size, 0, none⟩ (.int .i64 k2)).setCell ⟨W.heap.size, 1, none⟩ (.int .i64 6)).setCell ⟨W.heap.size, 2, none⟩ (.int .i64 j2)) [W.heap.size] := (((Tn.refl w5 [W.heap.size]).st (by simp)).st (by simp)).st (by simp)
            have B := HB.out
            have b1 := B.pc
            have b2 := B.pl
            have b3 := B.pr
            have b4 := B.pb
            have b5 := B.pg
            have T7 := (HT2.out.trans (Tn.gb HG5.out (by simp))).over t6 (by intro i hi; simp at hi; left; omega)
            have O7 := ro_t (HO2.out.grown HG5.out (by simp) (by simp) (by simp)) t6 (by simp; omega) (by simp; omega) (by simp; omega)
            have R7 := rd_own HR5.out t6 (by simp; omega) (by simp; omega)
            have e1 : (stp x (2 * i)).s = x.s := rfl
            have e2 : (stp x (2 * i)).st = x.st + ((2 * i : Nat) : Int) := rfl
            have h3 := HP.out.2
            have h16 := HX.out.2.2
            have hib : 16 + 8 * i ≤ s.size := by have := HI.out.rd.so.pt; exact this
            have hlm := nor_lm HNO.out (c := c) (l := l)
            rcases HNO.out with ⟨c1, c2, c3, c4, c5⟩ | ⟨c1, c3, c4, c5⟩
            · subst c3 c4 c5
              refine ⟨_, _, R7, T7, (lm_stp x _).trans hlm, rfl, ⟨_, O7⟩, .inr (.inl ?_)⟩
              rcases HK.out with ⟨k1, k2, k3, k4⟩ | ⟨k1, k2, k3, k4, k5, k6⟩
              · exfalso; omega
              · subst k4 k5
                exact ⟨by decide, rfl, HX.out.1⟩
            · subst c3 c4 c5
              refine ⟨_, _, R7, T7, (lm_stp x _).trans hlm, rfl, ⟨_, O7⟩, .inr (.inr ⟨?_, ⟨16 + 8 * i, hib, rfl⟩, by show (3 : Int) ≠ 0; decide⟩)⟩
              rw [e1, e2] at c1
              rcases HK.out with ⟨k1, k2, k3, k4⟩ | ⟨k1, k2, k3, k4, k5, k6⟩ <;> omega
        · have d1 : decide ((x' : Int) < (gw : Int)) = false := decide_eq_false (by omega)
          obtain rfl : x' = gw := by omega
          have HP2 := Lib.hid (show (y + 1) * x' = y * x' + x' from by rw [Nat.add_mul, Nat.one_mul])
          go_wp2
          go_roundg (gh - (y + 1))
          case measure => omega
          case rel => exact ⟨y + 1, by omega, rfl, by go_num, by rw [HP2.out]; exact HI.out⟩
    · have d0 : decide ((y : Int) < (gh : Int)) = false := decide_eq_false (by omega)
      obtain rfl : y = gh := by omega
      have F5 := HI.out.fl
      have q0 := F5.c0
      have q1 := F5.c1
      have q2 := F5.c2
      have qf0 := F5.free 0
      have qf1 := F5.free 1
      have qf2 := F5.free 2
      clear F5
      go_wp2
      refine bodyPost_ret (v := okT) (by simp only [results, Tryz.results63, okT]; go_simp) rfl ?_
      rw [← HQ.out]
      have t6 : Tn wr (((wr.setCell ⟨W.heap.size, 0, none⟩ (.int .i64 0)).setCell ⟨W.heap.size, 1, none⟩ (.int .i64 0)).setCell ⟨W.heap.size, 2, none⟩ (.int .i64 0)) [W.heap.size] := (((Tn.refl wr [W.heap.size]).st (by simp)).st (by simp)).st (by simp)
      have B := HB.out
      have b1 := B.pc
      have b2 := B.pl
      have b3 := B.pr
      have b4 := B.pb
      have b5 := B.pg
      have hyn : y * gw = n := by rw [Nat.mul_comm]; exact HX.out.2.1
      have I5 := HI.out
      rw [hyn] at I5
      have O7 := ro_t I5.ro t6 (by simp; omega) (by simp; omega) (by simp; omega)
      refine ⟨_, _, rd_own I5.rd t6 (by simp; omega) (by simp; omega), I5.tn.over t6 (by intro i hi; simp at hi; left; omega), lm_stp x _, rfl, ⟨_, O7⟩, .inl ⟨?_, rfl, HX.out.1, O7⟩⟩
      have hib : 16 + 8 * n ≤ s.size := by have := I5.rd.so.pt; exact this
      rcases HK.out with ⟨k1, k2, k3, k4⟩ | ⟨k1, k2, k3, k4, k5, k6⟩
      · exact k3
      · exfalso; omega

end Go.Proofs.YtjdhlehpoclnjaaGreat.Ff
