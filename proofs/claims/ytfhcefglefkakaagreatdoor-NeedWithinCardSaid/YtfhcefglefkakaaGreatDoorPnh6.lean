/- Package pnmhead: the numbers of a head (written by wip/gen/pnh6.py). -/
import Derived.Test.YtfhcefglefkakaaGreatDoorPnh5
namespace Go.Proofs.YtfhcefglefkakaaGreatDoor.Ph
open Go.ChangeShapes Go.WideShapes Go.ChangeAt Go.RowKit
open Go.Proofs.YtfhcefglefkakaaGreatDoor.Le Go.Proofs.YtfhcefglefkakaaGreatDoor.Sr Go.Proofs.YtfhcefglefkakaaGreatDoor.Tk
set_option linter.unusedVariables false

/-- Block b is a head. -/
def Hc (b : Nat) (k w h m a : Int) (W : World) : Prop := W.heap[b]? = some (.cells #[.int .i64 k, .int .i64 w, .int .i64 h, .int .i64 m, .int .i64 a] 93 (0, 0))
section
variable {b : Nat} {k w h m a : Int} {W W' : World}
theorem Hc.c0 (H : Hc b k w h m a W) : W.cell? ⟨b, 0, none⟩ = some (.int .i64 k) := blk_cell H 0
theorem Hc.c1 (H : Hc b k w h m a W) : W.cell? ⟨b, 1, none⟩ = some (.int .i64 w) := blk_cell H 1
theorem Hc.c2 (H : Hc b k w h m a W) : W.cell? ⟨b, 2, none⟩ = some (.int .i64 h) := blk_cell H 2
theorem Hc.c3 (H : Hc b k w h m a W) : W.cell? ⟨b, 3, none⟩ = some (.int .i64 m) := blk_cell H 3
theorem Hc.c4 (H : Hc b k w h m a W) : W.cell? ⟨b, 4, none⟩ = some (.int .i64 a) := blk_cell H 4
theorem Hc.free (H : Hc b k w h m a W) (o : Nat) : W.frozen? ⟨b, o, none⟩ = false := blk_free H o
theorem Hc.lt (H : Hc b k w h m a W) : b < W.heap.size := blk_lt H
theorem Hc.turned {S : List Nat} (H : Hc b k w h m a W) (t : Tn W W' S) (h1 : b ∉ S) : Hc b k w h m a W' := (t.block b H.lt h1).trans H
theorem Hc.set1 (H : Hc b k w h m a W) (x : Int) : Hc b k x h m a (W.setCell ⟨b, 1, none⟩ (.int .i64 x)) := blk_set H 1 (.int .i64 x)
theorem Hc.set2 (H : Hc b k w h m a W) (x : Int) : Hc b k w x m a (W.setCell ⟨b, 2, none⟩ (.int .i64 x)) := blk_set H 2 (.int .i64 x)
theorem Hc.set3 (H : Hc b k w h m a W) (x : Int) : Hc b k w h x a (W.setCell ⟨b, 3, none⟩ (.int .i64 x)) := blk_set H 3 (.int .i64 x)
theorem Hc.set4 (H : Hc b k w h m a W) (x : Int) : Hc b k w h m x (W.setCell ⟨b, 4, none⟩ (.int .i64 x)) := blk_set H 4 (.int .i64 x)
theorem Hc.oth {c o : Nat} {v : Value} (H : Hc b k w h m a W) (h1 : b ≠ c) : Hc b k w h m a (W.setCell ⟨c, o, none⟩ v) := blk_other H h1
theorem Hc.al (H : Hc b k w h m a W) (o : Obj) : Hc b k w h m a (W.alloc o) := blk_al H o
end
theorem Fl.oth {r k' o : Nat} {v : Value} {k f a : Int} {w : World} (h : Fl r k f a w) (h1 : r ≠ k') : Fl r k f a (w.setCell ⟨k', o, none⟩ v) := blk_other h h1
theorem Fl.al {r : Nat} {k f a : Int} {w : World} (h : Fl r k f a w) (o : Obj) : Fl r k f a (w.alloc o) := blk_al h o

theorem nums_ge {s : ByteArray} {k r : Nat} {z : NR} (hb : ¬ (r = 0 ∧ (k = 1 ∨ k = 4))) (ha : z.a ≤ s.size) : z.n + numN s z.a ≤ (nums s k (r + 1) z).n := by
  rcases gotV_gd s z.a ha with ⟨kd, pl, eg, h0, h3, hp, hN⟩ | ⟨v, f, j, eg, h1, h2, h3, h4, hN⟩
  · rw [nums_fault hb eg h0]
    exact Nat.le_refl _
  · by_cases hv : v = 0 ∨ (r = 0 ∧ 65535 < v)
    · rw [nums_bad hb eg hv]
      exact Nat.le_refl _
    · by_cases hg : 0 < r ∧ 16384 < v
      · rw [nums_big hb eg hv hg]
        exact Nat.le_refl _
      · rw [nums_on hb eg hv hg]
        exact (nums_gd s k r ⟨0, 0, j, if r = 2 then v else z.w, if r = 1 then v else z.h, if r = 0 then v else z.m, z.n + numN s z.a⟩ rfl h3).2.1
theorem fp_nums {W : World} {c l : Nat} {s : ByteArray} {x : St} {k q kd pl N : Nat} {R : NR} (hq : q ≤ s.size) (hv : readV s = endV s k R) (hn : readN s = endN k R) (hR : R = ⟨kd, pl, 0, 0, 0, 0, N⟩) (h0 : kd ≠ 0) : FP W c l s x kd 3 pl q (stp x N) := by
  refine fp_fault hq h0 (by rw [hv, hR]; exact endV_fault h0) ?_
  rw [hn, hR]
  unfold endN
  rw [if_pos h0]
theorem fp_nspent {W : World} {c l : Nat} {s : ByteArray} {x : St} {k q M : Nat} {R : NR} (hq : q ≤ s.size) (hn : readN s = endN k R) (hge : M ≤ R.n) (h : x.s < x.st + (M : Int)) : FP W c l s x 4 3 q q (spent x) := by
  refine fp_spent hq ?_
  have := endN_ge (k := k) (R := R)
  rw [hn]
  omega

theorem idx_0 (hd : Nat) (w : World) : (Instr.index 168 (.agg #[.pointer (some ⟨hd, 1, none⟩), .pointer (some ⟨hd, 2, none⟩), .pointer (some ⟨hd, 3, none⟩)]) (.int .i64 0)).run Tryz.prog w = .ok (.pointer (some ⟨hd, 1, none⟩)) w := by kernel_rfl
theorem idx_1 (hd : Nat) (w : World) : (Instr.index 168 (.agg #[.pointer (some ⟨hd, 1, none⟩), .pointer (some ⟨hd, 2, none⟩), .pointer (some ⟨hd, 3, none⟩)]) (.int .i64 1)).run Tryz.prog w = .ok (.pointer (some ⟨hd, 2, none⟩)) w := by kernel_rfl
theorem idx_2 (hd : Nat) (w : World) : (Instr.index 168 (.agg #[.pointer (some ⟨hd, 1, none⟩), .pointer (some ⟨hd, 2, none⟩), .pointer (some ⟨hd, 3, none⟩)]) (.int .i64 2)).run Tryz.prog w = .ok (.pointer (some ⟨hd, 3, none⟩)) w := by kernel_rfl

/-- Behind the numbers. -/
def NumP (W0 W : World) (c l hd : Nat) (s : ByteArray) (k : Nat) (R : NR) (x : St) (e : Ending) (w' : World) : Prop :=
  ∃ q, q ≤ s.size ∧ Tn W w' [c, l, hd] ∧ ((∃ (kf f a : Int) (y : St), e = .returned (.agg #[.int .i64 kf, .int .i64 f, .int .i64 a]) ∧ Rd c l s q y w' ∧ FP W0 c l s x kf f a q y) ∨
    (R.f = 0 ∧ q = R.a ∧ e = .returned okF ∧ Rd c l s q (stp x R.n) w' ∧ Hc hd k R.w R.h R.m 0 w'))

set_option maxRecDepth 100000 in
set_option maxHeartbeats 8000000 in
theorem numbers_calls (c l hd : Nat) (s : ByteArray) (k : Nat) (R : NR) (x : St) (W0 W : World) (h : Rd c l s 2 (stp x 2) W) (hh : Hc hd k 0 0 1 0 W) (hr : x.r = 0) (nc : hd ≠ c) (nl : hd ≠ l)
    (hR : nums s k 3 nr0 = R) (hv : readV s = endV s k R) (hn : readN s = endN k R) :
    Calls Tryz.prog 64 #[.pointer (some ⟨c, 0, none⟩), .pointer (some ⟨hd, 0, none⟩)] W (NumP W0 W c l hd s k R x) := by
  have hcw := h.clt
  have hlw := h.llt
  have hhw := hh.lt
  have hbig := h.so.big
  have hs2 := h.so.pt
  obtain ⟨r, hrw⟩ : ∃ r, W.heap.size = r := ⟨_, rfl⟩
  have HF0 : Fl r 0 0 0 (W.alloc (.cells #[.int .i64 0, .int .i64 0, .int .i64 0] 36)) := by
    rw [← hrw]
    exact Fl.new W
  have hT0 : Tn W (W.alloc (.cells #[.int .i64 0, .int .i64 0, .int .i64 0] 36)) [c, l, hd] := Tn.gb (World.grownBy_alloc _ _ none) (by simp)
  have HR0 := Lib.hid (h.grown (World.grownBy_alloc W (.cells #[.int .i64 0, .int .i64 0, .int .i64 0] 36) none))
  have HH0 := Lib.hid (hh.al (.cells #[.int .i64 0, .int .i64 0, .int .i64 0] 36))
  have HF0 := Lib.hid HF0
  have HT0 := Lib.hid hT0
  have hrc : r ≠ c := by omega
  have hrl : r ≠ l := by omega
  have hrh : ¬ r = hd := by omega
  have hhr : ¬ hd = r := by omega
  have HRW := Lib.hid hrw
  have HNI : r ∉ [c, l] := by simp [hrc, hrl]
  have HNH : hd ∉ [c, l] := by simp [nc, nl]
  have HC := Lib.hid hrc
  have HL := Lib.hid hrl
  have HNC := Lib.hid nc
  have HNL := Lib.hid nl
  have HRR := Lib.hid hR
  have HV := Lib.hid hv
  have HN := Lib.hid hn
  have HX := Lib.hid hr
  clear h hh hr hT0 hcw hlw hhw hrc hrl nc nl hR hv hn
  go_enter Tryz.func64, Tryz.ntmps64
  go_wp2_with fail
  clear hrw
  generalize W.alloc (.cells #[.int .i64 0, .int .i64 0, .int .i64 0] 36) = w0 at HF0 HT0 HR0 HH0 ⊢
  have HRq := Lib.hid (fun n : Nat => HR0.out.grown (gb_drewN w0 n none))
  have HHq := Lib.hid (fun n : Nat => HH0.out.turned (Tn.gb (gb_drewN w0 n none) (S := [c, l]) (by simp)) HNH)
  have HFq := Lib.hid (fun n : Nat => HF0.out.turned (Tn.gb (gb_drewN w0 n none) (S := [c, l]) (by simp)) HNI)
  have HTq := Lib.hid (fun n : Nat => HT0.out.trans (Tn.gb (gb_drewN w0 n none) (S := [c, l, hd]) (by simp)))
  clear HF0 HT0 HR0 HH0
  go_quiet (fail)
  go_wp2_with fail
  go_loopg [21] 3 (fun qq iv wr => ∃ i a w h m n : Nat, i ≤ 3 ∧ a ≤ s.size ∧ qq = 3 - i ∧ iv = .int .i64 i ∧ nums s k (3 - i) ⟨0, 0, a, w, h, m, n⟩ = R ∧ Rd c l s a (stp x n) wr ∧ Hc hd k w h m 0 wr ∧ Fl r 0 0 0 wr ∧ Tn W wr [c, l, hd])
  case atStart => exact ⟨0, 2, 0, 0, 1, 2, by decide, hs2, rfl, rfl, HRR.out, HRq.out _, HHq.out _, HFq.out _, HTq.out _⟩
  case round =>
    obtain ⟨i, a, w, h, m, n, hi, ha, rfl, rfl, J, R0, D0, F0, T0⟩ := hrel
    have HJ := Lib.hid J
    have HR2 := Lib.hid R0
    have HD2 := Lib.hid D0
    have HF2 := Lib.hid F0
    have HT2 := Lib.hid T0
    clear J R0 D0 F0 T0 HRq HHq HFq HTq HRR
    obtain rfl | rfl | rfl | rfl : i = 0 ∨ i = 1 ∨ i = 2 ∨ i = 3 := by omega
    · have hix := idx_0 hd
      have KN := number_calls c l s a _ wr HR2.out HX.out
      rcases gotV_gd s a ha with ⟨kd, pl, eg, hk0, hk3, hpl, _⟩ | ⟨v, f, j, eg, hkf, hfj, hjs, hv, hNj⟩
      · rw [eg] at KN
        have KN := Lib.hid KN
        have hR := HJ.out.symm.trans (nums_fault (r := 2) (fun h => absurd h.1 (by decide)) eg hk0)
        have d5 : ((kd : Int) == 0) = false := by rw [beq_eq_false_iff_ne]; omega
        have d5' : ((kd : Int) != 0) = true := by rw [bne_iff_ne]; omega
        have h3 := Lib.hid (fmK_pos' hk0)
        clear eg
        go_wp2_with fail
        refine KN.out.mono ?_
        rintro e w3 ⟨q, hpq, hqs, t3, ⟨rfl, _, R3⟩ | ⟨hno, rfl, R3⟩⟩
        · have HFP := Lib.hid (fp_nums (W := W0) (c := c) (l := l) (x := x) hqs HV.out HN.out hR hk0)
          have F3 := HF2.out.turned t3 HNI
          have hr3 := F3.lt
          have HF3 := Lib.hid F3
          have HT3 := Lib.hid (HT2.out.trans (t3.mono (by simp)))
          rw [stp_stp] at R3
          have HR3 := Lib.hid R3
          clear hR t3 R3 F3 HF2 HT2 HR2 KN HJ
          simp only [gotT]
          rw [h3.out]
          have F9 : Fl r 0 0 0 w3 := HF3.out
          have q0 := F9.c0
          have q1 := F9.c1
          have q2 := F9.c2
          have f0 := F9.free 0
          have f1 := F9.free 1
          have f2 := F9.free 2
          have hr9 := F9.lt
          clear F9
          go_wp2
          refine bodyPost_ret (v := .agg #[.int .i64 kd, .int .i64 3, .int .i64 pl]) (by simp only [results, Tryz.results64]; go_simp) rfl ⟨q, hqs, (Tn.own3 HT3.out HRW.out).al, .inl ⟨kd, 3, pl, _, rfl, ((HR3.out.st3 HC.out HL.out).grown (World.grownBy_alloc _ _ none)), HFP.out⟩⟩
        · have hno' : x.s < x.st + ((n + numN s a : Nat) : Int) := by
            rw [stp_s, stp_st] at hno
            omega
          have HFP := Lib.hid (fp_nspent (W := W0) (c := c) (l := l) hqs HN.out (by rw [← HJ.out]; exact nums_ge (z := ⟨0, 0, a, w, h, m, n⟩) (r := 2) (fun h => absurd h.1 (by decide)) ha) hno')
          have F3 := HF2.out.turned t3 HNI
          have HF3 := Lib.hid F3
          have HT3 := Lib.hid (HT2.out.trans (t3.mono (by simp)))
          have HR3 := Lib.hid R3
          clear hR hno hno' t3 R3 F3 HF2 HT2 HR2 KN
          simp only [noT]
          have F9 : Fl r 0 0 0 w3 := HF3.out
          have q0 := F9.c0
          have q1 := F9.c1
          have q2 := F9.c2
          have f0 := F9.free 0
          have f1 := F9.free 1
          have f2 := F9.free 2
          have hr9 := F9.lt
          clear F9
          go_wp2
          refine bodyPost_ret (v := .agg #[.int .i64 4, .int .i64 3, .int .i64 q]) (by simp only [results, Tryz.results64]; go_simp) rfl ⟨q, hqs, (Tn.own3 HT3.out HRW.out).al, .inl ⟨4, 3, q, _, rfl, ((HR3.out.st3 HC.out HL.out).grown (World.grownBy_alloc _ _ none)), HFP.out⟩⟩
      · rw [eg] at KN
        have KN := Lib.hid KN
        go_wp2_with fail
        refine KN.out.mono ?_
        rintro e w3 ⟨q, hpq, hqs, t3, ⟨rfl, hq, R3⟩ | ⟨hno, rfl, R3⟩⟩
        · obtain rfl : q = j := hq rfl
          have D3 := HD2.out.turned t3 HNH
          have hd3 := D3.lt
          have HD3 := Lib.hid D3
          have F3 := HF2.out.turned t3 HNI
          have hr3 := F3.lt
          have HF3 := Lib.hid F3
          have HT3 := Lib.hid (HT2.out.trans (t3.mono (by simp)))
          rw [stp_stp] at R3
          have HR3 := Lib.hid R3
          clear t3 R3 F3 HF2 HT2 HR2 KN hq D3 HD2
          simp only [gotT, show ((fmK 0 : Nat) : Int) = 0 from rfl]
          rcases (show v = 0 ∨ 16384 < v ∨ (v ≠ 0 ∧ v ≤ 16384) from by omega) with h0 | h0 | ⟨h0, h1⟩
          · have hR := HJ.out.symm.trans (nums_bad (r := 2) (fun h => absurd h.1 (by decide)) eg (.inl h0))
            have HFP := Lib.hid (fp_nums (W := W0) (c := c) (l := l) (x := x) hqs HV.out HN.out hR (by decide))
            have d6 : ((v : Int) == 0) = true := by rw [beq_iff_eq]; omega
            clear h0
            clear hR eg HJ
            go_wp2_with fail
            refine (pfault_calls 2 f _).mono ?_
            rintro e w5 ⟨rfl, g5⟩
            have HR5 := Lib.hid ((HR3.out.grown (World.grownBy_alloc _ _ none)).grown g5)
            have HT5 := Lib.hid ((HT3.out.al (o := .cells #[.int .i64 0, .int .i64 0, .int .i64 0] 36)).trans (Tn.gb g5 (by simp)))
            have HF5 := Lib.hid ((Fl.al HF3.out (.cells #[.int .i64 0, .int .i64 0, .int .i64 0] 36)).turned (Tn.gb g5 (S := [c, l]) (by simp)) HNI)
            clear g5 HR3 HT3 HF3
            have F9 : Fl r 0 0 0 w5 := HF5.out
            have q0 := F9.c0
            have q1 := F9.c1
            have q2 := F9.c2
            have f0 := F9.free 0
            have f1 := F9.free 1
            have f2 := F9.free 2
            have hr9 := F9.lt
            clear F9
            go_wp2
            refine bodyPost_ret (v := .agg #[.int .i64 2, .int .i64 3, .int .i64 f]) (by simp only [results, Tryz.results64]; go_simp) rfl ⟨q, hqs, (Tn.own3 HT5.out HRW.out), .inl ⟨2, 3, f, _, rfl, (HR5.out.st3 HC.out HL.out), HFP.out⟩⟩
          · have hR := HJ.out.symm.trans (nums_big (r := 2) (fun h => absurd h.1 (by decide)) eg (by omega) ⟨by decide, h0⟩)
            have HFP := Lib.hid (fp_nums (W := W0) (c := c) (l := l) (x := x) hqs HV.out HN.out hR (by decide))
            have d6 : ((v : Int) == 0) = false := by rw [beq_eq_false_iff_ne]; omega
            have d7 : decide ((16384 : Int) < v) = true := decide_eq_true (by omega)
            clear hR eg HJ
            go_wp2_with fail
            refine (pfault_calls 3 f _).mono ?_
            rintro e w5 ⟨rfl, g5⟩
            have HR5 := Lib.hid ((HR3.out.grown (World.grownBy_alloc _ _ none)).grown g5)
            have HT5 := Lib.hid ((HT3.out.al (o := .cells #[.int .i64 0, .int .i64 0, .int .i64 0] 36)).trans (Tn.gb g5 (by simp)))
            have HF5 := Lib.hid ((Fl.al HF3.out (.cells #[.int .i64 0, .int .i64 0, .int .i64 0] 36)).turned (Tn.gb g5 (S := [c, l]) (by simp)) HNI)
            clear g5 HR3 HT3 HF3
            have F9 : Fl r 0 0 0 w5 := HF5.out
            have q0 := F9.c0
            have q1 := F9.c1
            have q2 := F9.c2
            have f0 := F9.free 0
            have f1 := F9.free 1
            have f2 := F9.free 2
            have hr9 := F9.lt
            clear F9
            go_wp2
            refine bodyPost_ret (v := .agg #[.int .i64 3, .int .i64 3, .int .i64 f]) (by simp only [results, Tryz.results64]; go_simp) rfl ⟨q, hqs, (Tn.own3 HT5.out HRW.out), .inl ⟨3, 3, f, _, rfl, (HR5.out.st3 HC.out HL.out), HFP.out⟩⟩
          · have hR := (nums_on (r := 2) (fun h => absurd h.1 (by decide)) eg (by omega) (by omega)).symm.trans HJ.out
            have HR4 := Lib.hid hR
            have d6 : ((v : Int) == 0) = false := by rw [beq_eq_false_iff_ne]; omega
            have d7 : decide ((16384 : Int) < v) = false := decide_eq_false (by omega)
            clear hR eg HJ
            have q1 := HD3.out.c1
            have f1 := HD3.out.free 1
            go_wp2_with fail
            go_roundg 2
            case measure => omega
            case rel => exact ⟨1, q, v, h, m, _, by decide, hjs, rfl, by go_num, HR4.out, (HR3.out.st HNC.out.symm HNL.out.symm).grown (World.grownBy_alloc _ _ none), (HD3.out.set1 v).al _, Fl.al (Fl.oth HF3.out hrh) _, (HT3.out.st (by simp)).al⟩
        · have hno' : x.s < x.st + ((n + numN s a : Nat) : Int) := by
            rw [stp_s, stp_st] at hno
            omega
          have HFP := Lib.hid (fp_nspent (W := W0) (c := c) (l := l) hqs HN.out (by rw [← HJ.out]; exact nums_ge (z := ⟨0, 0, a, w, h, m, n⟩) (r := 2) (fun h => absurd h.1 (by decide)) ha) hno')
          have F3 := HF2.out.turned t3 HNI
          have HF3 := Lib.hid F3
          have HT3 := Lib.hid (HT2.out.trans (t3.mono (by simp)))
          have HR3 := Lib.hid R3
          clear hno hno' t3 R3 F3 HF2 HT2 HR2 KN
          simp only [noT]
          have F9 : Fl r 0 0 0 w3 := HF3.out
          have q0 := F9.c0
          have q1 := F9.c1
          have q2 := F9.c2
          have f0 := F9.free 0
          have f1 := F9.free 1
          have f2 := F9.free 2
          have hr9 := F9.lt
          clear F9
          go_wp2
          refine bodyPost_ret (v := .agg #[.int .i64 4, .int .i64 3, .int .i64 q]) (by simp only [results, Tryz.results64]; go_simp) rfl ⟨q, hqs, (Tn.own3 HT3.out HRW.out).al, .inl ⟨4, 3, q, _, rfl, ((HR3.out.st3 HC.out HL.out).grown (World.grownBy_alloc _ _ none)), HFP.out⟩⟩
    · have hix := idx_1 hd
      have KN := number_calls c l s a _ wr HR2.out HX.out
      rcases gotV_gd s a ha with ⟨kd, pl, eg, hk0, hk3, hpl, _⟩ | ⟨v, f, j, eg, hkf, hfj, hjs, hv, hNj⟩
      · rw [eg] at KN
        have KN := Lib.hid KN
        have hR := HJ.out.symm.trans (nums_fault (r := 1) (fun h => absurd h.1 (by decide)) eg hk0)
        have d5 : ((kd : Int) == 0) = false := by rw [beq_eq_false_iff_ne]; omega
        have d5' : ((kd : Int) != 0) = true := by rw [bne_iff_ne]; omega
        have h3 := Lib.hid (fmK_pos' hk0)
        clear eg
        go_wp2_with fail
        refine KN.out.mono ?_
        rintro e w3 ⟨q, hpq, hqs, t3, ⟨rfl, _, R3⟩ | ⟨hno, rfl, R3⟩⟩
        · have HFP := Lib.hid (fp_nums (W := W0) (c := c) (l := l) (x := x) hqs HV.out HN.out hR hk0)
          have F3 := HF2.out.turned t3 HNI
          have hr3 := F3.lt
          have HF3 := Lib.hid F3
          have HT3 := Lib.hid (HT2.out.trans (t3.mono (by simp)))
          rw [stp_stp] at R3
          have HR3 := Lib.hid R3
          clear hR t3 R3 F3 HF2 HT2 HR2 KN HJ
          simp only [gotT]
          rw [h3.out]
          have F9 : Fl r 0 0 0 w3 := HF3.out
          have q0 := F9.c0
          have q1 := F9.c1
          have q2 := F9.c2
          have f0 := F9.free 0
          have f1 := F9.free 1
          have f2 := F9.free 2
          have hr9 := F9.lt
          clear F9
          go_wp2
          refine bodyPost_ret (v := .agg #[.int .i64 kd, .int .i64 3, .int .i64 pl]) (by simp only [results, Tryz.results64]; go_simp) rfl ⟨q, hqs, (Tn.own3 HT3.out HRW.out).al, .inl ⟨kd, 3, pl, _, rfl, ((HR3.out.st3 HC.out HL.out).grown (World.grownBy_alloc _ _ none)), HFP.out⟩⟩
        · have hno' : x.s < x.st + ((n + numN s a : Nat) : Int) := by
            rw [stp_s, stp_st] at hno
            omega
          have HFP := Lib.hid (fp_nspent (W := W0) (c := c) (l := l) hqs HN.out (by rw [← HJ.out]; exact nums_ge (z := ⟨0, 0, a, w, h, m, n⟩) (r := 1) (fun h => absurd h.1 (by decide)) ha) hno')
          have F3 := HF2.out.turned t3 HNI
          have HF3 := Lib.hid F3
          have HT3 := Lib.hid (HT2.out.trans (t3.mono (by simp)))
          have HR3 := Lib.hid R3
          clear hR hno hno' t3 R3 F3 HF2 HT2 HR2 KN
          simp only [noT]
          have F9 : Fl r 0 0 0 w3 := HF3.out
          have q0 := F9.c0
          have q1 := F9.c1
          have q2 := F9.c2
          have f0 := F9.free 0
          have f1 := F9.free 1
          have f2 := F9.free 2
          have hr9 := F9.lt
          clear F9
          go_wp2
          refine bodyPost_ret (v := .agg #[.int .i64 4, .int .i64 3, .int .i64 q]) (by simp only [results, Tryz.results64]; go_simp) rfl ⟨q, hqs, (Tn.own3 HT3.out HRW.out).al, .inl ⟨4, 3, q, _, rfl, ((HR3.out.st3 HC.out HL.out).grown (World.grownBy_alloc _ _ none)), HFP.out⟩⟩
      · rw [eg] at KN
        have KN := Lib.hid KN
        go_wp2_with fail
        refine KN.out.mono ?_
        rintro e w3 ⟨q, hpq, hqs, t3, ⟨rfl, hq, R3⟩ | ⟨hno, rfl, R3⟩⟩
        · obtain rfl : q = j := hq rfl
          have D3 := HD2.out.turned t3 HNH
          have hd3 := D3.lt
          have HD3 := Lib.hid D3
          have F3 := HF2.out.turned t3 HNI
          have hr3 := F3.lt
          have HF3 := Lib.hid F3
          have HT3 := Lib.hid (HT2.out.trans (t3.mono (by simp)))
          rw [stp_stp] at R3
          have HR3 := Lib.hid R3
          clear t3 R3 F3 HF2 HT2 HR2 KN hq D3 HD2
          simp only [gotT, show ((fmK 0 : Nat) : Int) = 0 from rfl]
          rcases (show v = 0 ∨ 16384 < v ∨ (v ≠ 0 ∧ v ≤ 16384) from by omega) with h0 | h0 | ⟨h0, h1⟩
          · have hR := HJ.out.symm.trans (nums_bad (r := 1) (fun h => absurd h.1 (by decide)) eg (.inl h0))
            have HFP := Lib.hid (fp_nums (W := W0) (c := c) (l := l) (x := x) hqs HV.out HN.out hR (by decide))
            have d6 : ((v : Int) == 0) = true := by rw [beq_iff_eq]; omega
            clear h0
            clear hR eg HJ
            go_wp2_with fail
            refine (pfault_calls 2 f _).mono ?_
            rintro e w5 ⟨rfl, g5⟩
            have HR5 := Lib.hid ((HR3.out.grown (World.grownBy_alloc _ _ none)).grown g5)
            have HT5 := Lib.hid ((HT3.out.al (o := .cells #[.int .i64 0, .int .i64 0, .int .i64 0] 36)).trans (Tn.gb g5 (by simp)))
            have HF5 := Lib.hid ((Fl.al HF3.out (.cells #[.int .i64 0, .int .i64 0, .int .i64 0] 36)).turned (Tn.gb g5 (S := [c, l]) (by simp)) HNI)
            clear g5 HR3 HT3 HF3
            have F9 : Fl r 0 0 0 w5 := HF5.out
            have q0 := F9.c0
            have q1 := F9.c1
            have q2 := F9.c2
            have f0 := F9.free 0
            have f1 := F9.free 1
            have f2 := F9.free 2
            have hr9 := F9.lt
            clear F9
            go_wp2
            refine bodyPost_ret (v := .agg #[.int .i64 2, .int .i64 3, .int .i64 f]) (by simp only [results, Tryz.results64]; go_simp) rfl ⟨q, hqs, (Tn.own3 HT5.out HRW.out), .inl ⟨2, 3, f, _, rfl, (HR5.out.st3 HC.out HL.out), HFP.out⟩⟩
          · have hR := HJ.out.symm.trans (nums_big (r := 1) (fun h => absurd h.1 (by decide)) eg (by omega) ⟨by decide, h0⟩)
            have HFP := Lib.hid (fp_nums (W := W0) (c := c) (l := l) (x := x) hqs HV.out HN.out hR (by decide))
            have d6 : ((v : Int) == 0) = false := by rw [beq_eq_false_iff_ne]; omega
            have d7 : decide ((16384 : Int) < v) = true := decide_eq_true (by omega)
            clear hR eg HJ
            go_wp2_with fail
            refine (pfault_calls 3 f _).mono ?_
            rintro e w5 ⟨rfl, g5⟩
            have HR5 := Lib.hid ((HR3.out.grown (World.grownBy_alloc _ _ none)).grown g5)
            have HT5 := Lib.hid ((HT3.out.al (o := .cells #[.int .i64 0, .int .i64 0, .int .i64 0] 36)).trans (Tn.gb g5 (by simp)))
            have HF5 := Lib.hid ((Fl.al HF3.out (.cells #[.int .i64 0, .int .i64 0, .int .i64 0] 36)).turned (Tn.gb g5 (S := [c, l]) (by simp)) HNI)
            clear g5 HR3 HT3 HF3
            have F9 : Fl r 0 0 0 w5 := HF5.out
            have q0 := F9.c0
            have q1 := F9.c1
            have q2 := F9.c2
            have f0 := F9.free 0
            have f1 := F9.free 1
            have f2 := F9.free 2
            have hr9 := F9.lt
            clear F9
            go_wp2
            refine bodyPost_ret (v := .agg #[.int .i64 3, .int .i64 3, .int .i64 f]) (by simp only [results, Tryz.results64]; go_simp) rfl ⟨q, hqs, (Tn.own3 HT5.out HRW.out), .inl ⟨3, 3, f, _, rfl, (HR5.out.st3 HC.out HL.out), HFP.out⟩⟩
          · have hR := (nums_on (r := 1) (fun h => absurd h.1 (by decide)) eg (by omega) (by omega)).symm.trans HJ.out
            have HR4 := Lib.hid hR
            have d6 : ((v : Int) == 0) = false := by rw [beq_eq_false_iff_ne]; omega
            have d7 : decide ((16384 : Int) < v) = false := decide_eq_false (by omega)
            clear hR eg HJ
            have q2 := HD3.out.c2
            have f2 := HD3.out.free 2
            go_wp2_with fail
            go_roundg 1
            case measure => omega
            case rel => exact ⟨2, q, w, v, m, _, by decide, hjs, rfl, by go_num, HR4.out, (HR3.out.st HNC.out.symm HNL.out.symm).grown (World.grownBy_alloc _ _ none), (HD3.out.set2 v).al _, Fl.al (Fl.oth HF3.out hrh) _, (HT3.out.st (by simp)).al⟩
        · have hno' : x.s < x.st + ((n + numN s a : Nat) : Int) := by
            rw [stp_s, stp_st] at hno
            omega
          have HFP := Lib.hid (fp_nspent (W := W0) (c := c) (l := l) hqs HN.out (by rw [← HJ.out]; exact nums_ge (z := ⟨0, 0, a, w, h, m, n⟩) (r := 1) (fun h => absurd h.1 (by decide)) ha) hno')
          have F3 := HF2.out.turned t3 HNI
          have HF3 := Lib.hid F3
          have HT3 := Lib.hid (HT2.out.trans (t3.mono (by simp)))
          have HR3 := Lib.hid R3
          clear hno hno' t3 R3 F3 HF2 HT2 HR2 KN
          simp only [noT]
          have F9 : Fl r 0 0 0 w3 := HF3.out
          have q0 := F9.c0
          have q1 := F9.c1
          have q2 := F9.c2
          have f0 := F9.free 0
          have f1 := F9.free 1
          have f2 := F9.free 2
          have hr9 := F9.lt
          clear F9
          go_wp2
          refine bodyPost_ret (v := .agg #[.int .i64 4, .int .i64 3, .int .i64 q]) (by simp only [results, Tryz.results64]; go_simp) rfl ⟨q, hqs, (Tn.own3 HT3.out HRW.out).al, .inl ⟨4, 3, q, _, rfl, ((HR3.out.st3 HC.out HL.out).grown (World.grownBy_alloc _ _ none)), HFP.out⟩⟩
    · have hix := idx_2 hd
      have KB := fun u => bitmap_calls k u
      by_cases hbit : k = 1 ∨ k = 4
      · have hR : R = ⟨0, 0, a, w, h, m, n⟩ := by
          have := HJ.out
          rw [nums_bit hbit] at this
          exact this.symm
        simp only [(orB_iff 1 4 (k : Int)).2 (by omega)] at KB
        have KB := Lib.hid KB
        have q0 := HD2.out.c0
        have HRE := Lib.hid hR
        clear HJ hbit hR
        go_wp2_with fail
        refine (KB.out _).mono ?_
        rintro e w' ⟨rfl, rfl⟩
        clear q0
        have F9 : Fl r 0 0 0 wr := HF2.out
        have q0 := F9.c0
        have q1 := F9.c1
        have q2 := F9.c2
        have f0 := F9.free 0
        have f1 := F9.free 1
        have f2 := F9.free 2
        have hr9 := F9.lt
        clear F9
        go_wp2
        refine bodyPost_ret (v := okF) (by simp only [results, Tryz.results64, okF]; go_simp) rfl ⟨a, ha, Tn.own3 HT2.out HRW.out, .inr ⟨by rw [HRE.out], by rw [HRE.out], rfl, by rw [HRE.out]; exact HR2.out.st3 HC.out HL.out, by rw [HRE.out]; exact ((HD2.out.oth hhr).oth hhr).oth hhr⟩⟩
      · simp only [(orB_not 1 4 (k : Int)).2 (by omega)] at KB
        have KB := Lib.hid KB
        have KN := number_calls c l s a _ wr HR2.out HX.out
        rcases gotV_gd s a ha with ⟨kd, pl, eg, hk0, hk3, hpl, _⟩ | ⟨v, f, j, eg, hkf, hfj, hjs, hv, hNj⟩
        · rw [eg] at KN
          have KN := Lib.hid KN
          have hR := HJ.out.symm.trans (nums_fault (r := 0) (fun h => hbit h.2) eg hk0)
          have d5 : ((kd : Int) == 0) = false := by rw [beq_eq_false_iff_ne]; omega
          have d5' : ((kd : Int) != 0) = true := by rw [bne_iff_ne]; omega
          have h3 := Lib.hid (fmK_pos' hk0)
          clear eg
          have q0 := HD2.out.c0
          go_wp2_with fail
          refine (KB.out _).mono ?_
          rintro e w' ⟨rfl, rfl⟩
          go_wp2_with fail
          refine KN.out.mono ?_
          rintro e w3 ⟨q, hpq, hqs, t3, ⟨rfl, _, R3⟩ | ⟨hno, rfl, R3⟩⟩
          · have HFP := Lib.hid (fp_nums (W := W0) (c := c) (l := l) (x := x) hqs HV.out HN.out hR hk0)
            have F3 := HF2.out.turned t3 HNI
            have hr3 := F3.lt
            have HF3 := Lib.hid F3
            have HT3 := Lib.hid (HT2.out.trans (t3.mono (by simp)))
            rw [stp_stp] at R3
            have HR3 := Lib.hid R3
            clear hR t3 R3 F3 HF2 HT2 HR2 KN HJ q0
            simp only [gotT]
            rw [h3.out]
            have F9 : Fl r 0 0 0 w3 := HF3.out
            have q0 := F9.c0
            have q1 := F9.c1
            have q2 := F9.c2
            have f0 := F9.free 0
            have f1 := F9.free 1
            have f2 := F9.free 2
            have hr9 := F9.lt
            clear F9
            go_wp2
            refine bodyPost_ret (v := .agg #[.int .i64 kd, .int .i64 3, .int .i64 pl]) (by simp only [results, Tryz.results64]; go_simp) rfl ⟨q, hqs, (Tn.own3 HT3.out HRW.out).al, .inl ⟨kd, 3, pl, _, rfl, ((HR3.out.st3 HC.out HL.out).grown (World.grownBy_alloc _ _ none)), HFP.out⟩⟩
          · have hno' : x.s < x.st + ((n + numN s a : Nat) : Int) := by
              rw [stp_s, stp_st] at hno
              omega
            have HFP := Lib.hid (fp_nspent (W := W0) (c := c) (l := l) hqs HN.out (by rw [← HJ.out]; exact nums_ge (z := ⟨0, 0, a, w, h, m, n⟩) (r := 0) (fun h => hbit h.2) ha) hno')
            have F3 := HF2.out.turned t3 HNI
            have HF3 := Lib.hid F3
            have HT3 := Lib.hid (HT2.out.trans (t3.mono (by simp)))
            have HR3 := Lib.hid R3
            clear hR hno hno' t3 R3 F3 HF2 HT2 HR2 KN
            simp only [noT]
            have F9 : Fl r 0 0 0 w3 := HF3.out
            have q0 := F9.c0
            have q1 := F9.c1
            have q2 := F9.c2
            have f0 := F9.free 0
            have f1 := F9.free 1
            have f2 := F9.free 2
            have hr9 := F9.lt
            clear F9
            go_wp2
            refine bodyPost_ret (v := .agg #[.int .i64 4, .int .i64 3, .int .i64 q]) (by simp only [results, Tryz.results64]; go_simp) rfl ⟨q, hqs, (Tn.own3 HT3.out HRW.out).al, .inl ⟨4, 3, q, _, rfl, ((HR3.out.st3 HC.out HL.out).grown (World.grownBy_alloc _ _ none)), HFP.out⟩⟩
        · rw [eg] at KN
          have KN := Lib.hid KN
          have q0 := HD2.out.c0
          go_wp2_with fail
          refine (KB.out _).mono ?_
          rintro e w' ⟨rfl, rfl⟩
          go_wp2_with fail
          refine KN.out.mono ?_
          rintro e w3 ⟨q, hpq, hqs, t3, ⟨rfl, hq, R3⟩ | ⟨hno, rfl, R3⟩⟩
          · obtain rfl : q = j := hq rfl
            have D3 := HD2.out.turned t3 HNH
            have hd3 := D3.lt
            have HD3 := Lib.hid D3
            have F3 := HF2.out.turned t3 HNI
            have hr3 := F3.lt
            have HF3 := Lib.hid F3
            have HT3 := Lib.hid (HT2.out.trans (t3.mono (by simp)))
            rw [stp_stp] at R3
            have HR3 := Lib.hid R3
            clear t3 R3 F3 HF2 HT2 HR2 KN hq D3 HD2 q0
            simp only [gotT, show ((fmK 0 : Nat) : Int) = 0 from rfl]
            rcases (show (v = 0 ∨ 65535 < v) ∨ (v ≠ 0 ∧ v ≤ 65535) from by omega) with h0 | ⟨h0, h1⟩
            · have hR := HJ.out.symm.trans (nums_bad (r := 0) (fun h => hbit h.2) eg (by omega))
              have HFP := Lib.hid (fp_nums (W := W0) (c := c) (l := l) (x := x) hqs HV.out HN.out hR (by decide))
              have hmo := (rgB_not 1 65535 (v : Int)).2 (by omega)
              clear hR eg HJ
              go_wp2_with fail
              refine (isMost_calls v _).mono ?_
              rintro e w' ⟨rfl, rfl⟩
              rw [hmo]
              go_wp2_with fail
              refine (pfault_calls 2 f _).mono ?_
              rintro e w5 ⟨rfl, g5⟩
              have HR5 := Lib.hid ((HR3.out.grown (World.grownBy_alloc _ _ none)).grown g5)
              have HT5 := Lib.hid ((HT3.out.al (o := .cells #[.int .i64 0, .int .i64 0, .int .i64 0] 36)).trans (Tn.gb g5 (by simp)))
              have HF5 := Lib.hid ((Fl.al HF3.out (.cells #[.int .i64 0, .int .i64 0, .int .i64 0] 36)).turned (Tn.gb g5 (S := [c, l]) (by simp)) HNI)
              clear g5 HR3 HT3 HF3
              have F9 : Fl r 0 0 0 w5 := HF5.out
              have q0 := F9.c0
              have q1 := F9.c1
              have q2 := F9.c2
              have f0 := F9.free 0
              have f1 := F9.free 1
              have f2 := F9.free 2
              have hr9 := F9.lt
              clear F9
              go_wp2
              refine bodyPost_ret (v := .agg #[.int .i64 2, .int .i64 3, .int .i64 f]) (by simp only [results, Tryz.results64]; go_simp) rfl ⟨q, hqs, (Tn.own3 HT5.out HRW.out), .inl ⟨2, 3, f, _, rfl, (HR5.out.st3 HC.out HL.out), HFP.out⟩⟩
            · have hR := (nums_on (r := 0) (fun h => hbit h.2) eg (by omega) (by omega)).symm.trans HJ.out
              have HR4 := Lib.hid hR
              have hmo := (rgB_iff 1 65535 (v : Int)).2 (by omega)
              clear hR eg HJ
              have q3 := HD3.out.c3
              have f3 := HD3.out.free 3
              go_wp2_with fail
              refine (isMost_calls v _).mono ?_
              rintro e w' ⟨rfl, rfl⟩
              rw [hmo]
              go_wp2
              go_roundg 0
              case measure => omega
              case rel => exact ⟨3, q, w, h, v, _, by decide, hjs, rfl, by go_num, HR4.out, (HR3.out.st HNC.out.symm HNL.out.symm).grown (World.grownBy_alloc _ _ none), (HD3.out.set3 v).al _, Fl.al (Fl.oth HF3.out hrh) _, (HT3.out.st (by simp)).al⟩
          · have hno' : x.s < x.st + ((n + numN s a : Nat) : Int) := by
              rw [stp_s, stp_st] at hno
              omega
            have HFP := Lib.hid (fp_nspent (W := W0) (c := c) (l := l) hqs HN.out (by rw [← HJ.out]; exact nums_ge (z := ⟨0, 0, a, w, h, m, n⟩) (r := 0) (fun h => hbit h.2) ha) hno')
            have F3 := HF2.out.turned t3 HNI
            have HF3 := Lib.hid F3
            have HT3 := Lib.hid (HT2.out.trans (t3.mono (by simp)))
            have HR3 := Lib.hid R3
            clear hno hno' t3 R3 F3 HF2 HT2 HR2 KN
            simp only [noT]
            have F9 : Fl r 0 0 0 w3 := HF3.out
            have q0 := F9.c0
            have q1 := F9.c1
            have q2 := F9.c2
            have f0 := F9.free 0
            have f1 := F9.free 1
            have f2 := F9.free 2
            have hr9 := F9.lt
            clear F9
            go_wp2
            refine bodyPost_ret (v := .agg #[.int .i64 4, .int .i64 3, .int .i64 q]) (by simp only [results, Tryz.results64]; go_simp) rfl ⟨q, hqs, (Tn.own3 HT3.out HRW.out).al, .inl ⟨4, 3, q, _, rfl, ((HR3.out.st3 HC.out HL.out).grown (World.grownBy_alloc _ _ none)), HFP.out⟩⟩
    · have HRE := Lib.hid (show R = ⟨0, 0, a, w, h, m, n⟩ from HJ.out.symm)
      clear HJ
      have F9 : Fl r 0 0 0 wr := HF2.out
      have q0 := F9.c0
      have q1 := F9.c1
      have q2 := F9.c2
      have f0 := F9.free 0
      have f1 := F9.free 1
      have f2 := F9.free 2
      have hr9 := F9.lt
      clear F9
      go_wp2
      refine bodyPost_ret (v := okF) (by simp only [results, Tryz.results64, okF]; go_simp) rfl ⟨a, ha, Tn.own3 HT2.out HRW.out, .inr ⟨by rw [HRE.out], by rw [HRE.out], rfl, by rw [HRE.out]; exact HR2.out.st3 HC.out HL.out, by rw [HRE.out]; exact ((HD2.out.oth hhr).oth hhr).oth hhr⟩⟩

end Go.Proofs.YtfhcefglefkakaaGreatDoor.Ph
