/- Texts of one kind, one behind the other: QoS. -/
import Derived.Test.YtmhghkgcfgacdaaGreatG31
/- Layer 26: Sides, by any ledger. (Written by gen/qos.py.) -/
namespace Go.Proofs.YtmhghkgcfgacdaaGreat.Qo
open Go.ChangeShapes Go.WideShapes Go.ChangeAt Go.RowKit
open Go.Proofs.YtmhghkgcfgacdaaGreat.Le Go.Proofs.YtmhghkgcfgacdaaGreat.Tk Go.Proofs.YtmhghkgcfgacdaaGreat.Sr Go.Proofs.YtmhghkgcfgacdaaGreat.Sh Go.Proofs.YtmhghkgcfgacdaaGreat.Qw
open Go.Proofs.YtmhghkgcfgacdaaGreat.Ra hiding bt
set_option linter.unusedVariables false

def sgQ : ByteArray := ⟨#[113, 111, 105, 102]⟩
theorem sgQ_size : sgQ.size = 4 := rfl

set_option maxRecDepth 100000 in
set_option maxHeartbeats 1000000 in
theorem qsides_bad (c l q : Nat) (s : ByteArray) (x y : St) (k j : Int) (W : World) (R : Rd c l s 0 x W) (hk : k ≠ 0)
    (KR : ∀ u, Rd c l s 0 x u → Calls Tryz.prog 43 #[.pointer (some ⟨c, 0, none⟩), .string sgQ, .int .i64 14, .int .i64 5] u (HNo u c l s x 5 k j q y)) :
    Calls Tryz.prog 23 #[.pointer (some ⟨c, 0, none⟩)] W (fun e w' => e = .returned (.tuple #[.int .i64 0, .int .i64 0, flF 5 k j]) ∧ Rd c l s q y w' ∧ Tn W w' [c, l]) := by
  have e1 : (k == 0) = false := by rw [beq_eq_false_iff_ne]; exact hk
  have e2 : (k != 0) = true := by rw [bne_iff_ne]; exact hk
  unfold sgQ at KR
  have g0 := World.grownBy_alloc W (.cells #[.int .i64 0, .int .i64 0, .int .i64 0] 29) none
  have hc := R.clt
  have hl := R.llt
  have KA := Lib.hid (at_rd c l s 0 x _ (R.grown g0))
  have KR0 := Lib.hid (KR _ (R.grown g0))
  have HF0 := Lib.hid (Fl.new W)
  have HT0 := Lib.hid (show Tn W (W.alloc (.cells #[.int .i64 0, .int .i64 0, .int .i64 0] 29)) [c, l] from Tn.gb g0 (by simp))
  obtain ⟨b0, hb0⟩ : ∃ i, W.heap.size = i := ⟨_, rfl⟩
  have HZ := Lib.hid (show ∀ i, i ∈ [b0] → W.heap.size ≤ i ∨ i ∈ [c, l] by intro i hi; simp at hi; left; omega)
  rw [hb0] at HF0 hc hl
  have HN1 := Lib.hid (show c ∉ [b0] ∧ l ∉ [b0] ∧ b0 ∉ [c, l] from ⟨by simp; omega, by simp; omega, by simp; omega⟩)
  clear R KR g0 hc hl
  go_enter Tryz.func23, Tryz.ntmps23
  go_wp2_with fail
  generalize W.alloc (.cells #[.int .i64 0, .int .i64 0, .int .i64 0] 29) = w0 at KA KR0 HF0 HT0 ⊢
  clear hb0
  refine KA.out.mono ?_
  rintro e w' ⟨rfl, rfl⟩
  clear KA
  go_wp2_with fail
  refine KR0.out.mono ?_
  rintro e w1 ⟨rfl, R1, T1⟩
  have F1 := HF0.out.turned T1 HN1.out.2.2
  have HT1 := Lib.hid (HT0.out.trans T1)
  have HR1 := Lib.hid R1
  have q0 := F1.c0
  have q1 := F1.c1
  have q2 := F1.c2
  have qf0 := F1.free 0
  have qf1 := F1.free 1
  have qf2 := F1.free 2
  have HF1 := Lib.hid F1
  clear R1 T1 HF0 HT0 KR0 F1
  go_upto_block 0 with fail
  have t1 : Tn w1 (((w1.setCell ⟨b0, 0, none⟩ (.int .i64 k)).setCell ⟨b0, 1, none⟩ (.int .i64 5)).setCell ⟨b0, 2, none⟩ (.int .i64 j)) [b0] := (((Tn.refl w1 [b0]).st (by simp)).st (by simp)).st (by simp)
  have HR2 := Lib.hid (rd_own HR1.out t1 HN1.out.1 HN1.out.2.1)
  have HT2 := Lib.hid (HT1.out.over t1 HZ.out)
  have F2 := HF1.out.set k 5 j
  clear q0 q1 q2 qf0 qf1 qf2 t1 HF1 HT1 HR1
  generalize (((w1.setCell ⟨b0, 0, none⟩ (.int .i64 k)).setCell ⟨b0, 1, none⟩ (.int .i64 5)).setCell ⟨b0, 2, none⟩ (.int .i64 j)) = w2 at HR2 HT2 F2 ⊢
  have q0 := F2.c0
  have q1 := F2.c1
  have q2 := F2.c2
  have qf0 := F2.free 0
  have qf1 := F2.free 1
  have qf2 := F2.free 2
  have HF2 := Lib.hid F2
  clear F2
  go_wp2_with fail
  go_region
  go_wp2
  refine bodyPost_ret (v := .tuple #[.int .i64 0, .int .i64 0, flF 5 k j]) (by simp only [results, Tryz.results23, flF]; go_simp) rfl ?_
  have t3 : Tn w2 (((w2.setCell ⟨b0, 0, none⟩ (.int .i64 k)).setCell ⟨b0, 1, none⟩ (.int .i64 5)).setCell ⟨b0, 2, none⟩ (.int .i64 j)).drew [b0] := ((((Tn.refl w2 [b0]).st (by simp)).st (by simp)).st (by simp)).dr
  exact ⟨rfl, rd_own HR2.out t3 HN1.out.1 HN1.out.2.1, HT2.out.over t3 HZ.out⟩

set_option maxRecDepth 100000 in
set_option maxHeartbeats 1000000 in
theorem qsides_ch (c l q gw gh c12 c13 : Nat) (s z : ByteArray) (x y : St) (W : World) (R : Rd c l s 0 x W) (hz : z.size = 14) (h12 : bt z 12 = c12) (h13 : bt z 13 = c13) (hc3 : c12 ≠ 3) (hc4 : c12 ≠ 4)
    (KR : ∀ u, Rd c l s 0 x u → Calls Tryz.prog 43 #[.pointer (some ⟨c, 0, none⟩), .string sgQ, .int .i64 14, .int .i64 5] u (fun e w' => e = .returned (.tuple #[.int .i64 gw, .int .i64 gh, .string z, .agg #[.int .i64 0, .int .i64 0, .int .i64 0]]) ∧ Rd c l s q y w' ∧ Tn u w' [c, l])) :
    Calls Tryz.prog 23 #[.pointer (some ⟨c, 0, none⟩)] W (fun e w' => e = .returned (.tuple #[.int .i64 0, .int .i64 0, flF 5 2 12]) ∧ Rd c l s q y w' ∧ Tn W w' [c, l]) := by
  have k12 : 12 < z.size := by omega
  have k13 : 13 < z.size := by omega
  have y12 := bt_at z 12 k12
  have y13 := bt_at z 13 k13
  rw [h12] at y12
  rw [h13] at y13
  have e3 : ((c12 : Int) == 3) = false := by rw [beq_eq_false_iff_ne]; omega
  have e3' : ((c12 : Int) != 3) = true := by rw [bne_iff_ne]; omega
  have e4 : ((c12 : Int) == 4) = false := by rw [beq_eq_false_iff_ne]; omega
  have e4' : ((c12 : Int) != 4) = true := by rw [bne_iff_ne]; omega
  clear hc3 hc4
  clear h12 h13 hz
  unfold sgQ at KR
  have g0 := World.grownBy_alloc W (.cells #[.int .i64 0, .int .i64 0, .int .i64 0] 29) none
  have hc := R.clt
  have hl := R.llt
  have KA := Lib.hid (at_rd c l s 0 x _ (R.grown g0))
  have KR0 := Lib.hid (KR _ (R.grown g0))
  have HF0 := Lib.hid (Fl.new W)
  have HT0 := Lib.hid (show Tn W (W.alloc (.cells #[.int .i64 0, .int .i64 0, .int .i64 0] 29)) [c, l] from Tn.gb g0 (by simp))
  obtain ⟨b0, hb0⟩ : ∃ i, W.heap.size = i := ⟨_, rfl⟩
  have HZ := Lib.hid (show ∀ i, i ∈ [b0] → W.heap.size ≤ i ∨ i ∈ [c, l] by intro i hi; simp at hi; left; omega)
  rw [hb0] at HF0 hc hl
  have HN1 := Lib.hid (show c ∉ [b0] ∧ l ∉ [b0] ∧ b0 ∉ [c, l] from ⟨by simp; omega, by simp; omega, by simp; omega⟩)
  clear R KR g0 hc hl
  go_enter Tryz.func23, Tryz.ntmps23
  go_wp2_with fail
  generalize W.alloc (.cells #[.int .i64 0, .int .i64 0, .int .i64 0] 29) = w0 at KA KR0 HF0 HT0 ⊢
  clear hb0
  refine KA.out.mono ?_
  rintro e w' ⟨rfl, rfl⟩
  clear KA
  go_wp2_with fail
  refine KR0.out.mono ?_
  rintro e w1 ⟨rfl, R1, T1⟩
  have F1 := HF0.out.turned T1 HN1.out.2.2
  have HT1 := Lib.hid (HT0.out.trans T1)
  have HR1 := Lib.hid R1
  have q0 := F1.c0
  have q1 := F1.c1
  have q2 := F1.c2
  have qf0 := F1.free 0
  have qf1 := F1.free 1
  have qf2 := F1.free 2
  have HF1 := Lib.hid F1
  clear R1 T1 HF0 HT0 KR0 F1
  go_upto_block 0 with fail
  have t1 : Tn w1 (((w1.setCell ⟨b0, 0, none⟩ (.int .i64 0)).setCell ⟨b0, 1, none⟩ (.int .i64 0)).setCell ⟨b0, 2, none⟩ (.int .i64 0)) [b0] := (((Tn.refl w1 [b0]).st (by simp)).st (by simp)).st (by simp)
  have HR2 := Lib.hid (rd_own HR1.out t1 HN1.out.1 HN1.out.2.1)
  have HT2 := Lib.hid (HT1.out.over t1 HZ.out)
  have F2 := HF1.out.set 0 0 0
  clear q0 q1 q2 qf0 qf1 qf2 t1 HF1 HT1 HR1
  generalize (((w1.setCell ⟨b0, 0, none⟩ (.int .i64 0)).setCell ⟨b0, 1, none⟩ (.int .i64 0)).setCell ⟨b0, 2, none⟩ (.int .i64 0)) = w2 at HR2 HT2 F2 ⊢
  have q0 := F2.c0
  have q1 := F2.c1
  have q2 := F2.c2
  have qf0 := F2.free 0
  have qf1 := F2.free 1
  have qf2 := F2.free 2
  have HF2 := Lib.hid F2
  clear F2
  go_wp2_with fail
  refine (qfault_calls 2 12 w2).mono ?_
  rintro e w3 ⟨rfl, g3⟩
  have F3 := HF2.out.turned (Tn.gb g3 (S := []) (by simp)) (by simp)
  have HR3 := Lib.hid (HR2.out.grown g3)
  have HT3 := Lib.hid (HT2.out.trans (Tn.gb g3 (by simp)))
  clear q0 q1 q2 qf0 qf1 qf2
  have q0 := F3.c0
  have q1 := F3.c1
  have q2 := F3.c2
  have qf0 := F3.free 0
  have qf1 := F3.free 1
  have qf2 := F3.free 2
  clear F3 g3 HF2
  unfold flF
  go_wp2
  refine bodyPost_ret (v := .tuple #[.int .i64 0, .int .i64 0, flF 5 2 12]) (by simp only [results, Tryz.results23, flF]; go_simp) rfl ?_
  have t3 : Tn w3 (((w3.setCell ⟨b0, 0, none⟩ (.int .i64 2)).setCell ⟨b0, 1, none⟩ (.int .i64 5)).setCell ⟨b0, 2, none⟩ (.int .i64 12)) [b0] := ((((Tn.refl w3 [b0]).st (by simp)).st (by simp)).st (by simp))
  exact ⟨rfl, rd_own HR3.out t3 HN1.out.1 HN1.out.2.1, HT3.out.over t3 HZ.out⟩

set_option maxRecDepth 100000 in
set_option maxHeartbeats 1000000 in
theorem qsides_sp3 (c l q gw gh c12 c13 : Nat) (s z : ByteArray) (x y : St) (W : World) (R : Rd c l s 0 x W) (hz : z.size = 14) (h12 : bt z 12 = c12) (h13 : bt z 13 = c13) (hc : c12 = 3) (hs : 1 < c13)
    (KR : ∀ u, Rd c l s 0 x u → Calls Tryz.prog 43 #[.pointer (some ⟨c, 0, none⟩), .string sgQ, .int .i64 14, .int .i64 5] u (fun e w' => e = .returned (.tuple #[.int .i64 gw, .int .i64 gh, .string z, .agg #[.int .i64 0, .int .i64 0, .int .i64 0]]) ∧ Rd c l s q y w' ∧ Tn u w' [c, l])) :
    Calls Tryz.prog 23 #[.pointer (some ⟨c, 0, none⟩)] W (fun e w' => e = .returned (.tuple #[.int .i64 0, .int .i64 0, flF 5 2 13]) ∧ Rd c l s q y w' ∧ Tn W w' [c, l]) := by
  have k12 : 12 < z.size := by omega
  have k13 : 13 < z.size := by omega
  have y12 := bt_at z 12 k12
  have y13 := bt_at z 13 k13
  rw [h12] at y12
  rw [h13] at y13
  have e3 : ((c12 : Int) == 3) = true := by rw [beq_iff_eq]; omega
  have e3' : ((c12 : Int) != 3) = false := by rw [bne_eq_false_iff_eq]; omega
  have e4 : ((c12 : Int) == 4) = false := by rw [beq_eq_false_iff_ne]; omega
  have e4' : ((c12 : Int) != 4) = true := by rw [bne_iff_ne]; omega
  clear hc
  have e1 : ((1 : Int) < (c13 : Int)) := by omega
  have e2 : decide ((1 : Int) < (c13 : Int)) = true := decide_eq_true e1
  clear hs
  clear h12 h13 hz
  unfold sgQ at KR
  have g0 := World.grownBy_alloc W (.cells #[.int .i64 0, .int .i64 0, .int .i64 0] 29) none
  have hc := R.clt
  have hl := R.llt
  have KA := Lib.hid (at_rd c l s 0 x _ (R.grown g0))
  have KR0 := Lib.hid (KR _ (R.grown g0))
  have HF0 := Lib.hid (Fl.new W)
  have HT0 := Lib.hid (show Tn W (W.alloc (.cells #[.int .i64 0, .int .i64 0, .int .i64 0] 29)) [c, l] from Tn.gb g0 (by simp))
  obtain ⟨b0, hb0⟩ : ∃ i, W.heap.size = i := ⟨_, rfl⟩
  have HZ := Lib.hid (show ∀ i, i ∈ [b0] → W.heap.size ≤ i ∨ i ∈ [c, l] by intro i hi; simp at hi; left; omega)
  rw [hb0] at HF0 hc hl
  have HN1 := Lib.hid (show c ∉ [b0] ∧ l ∉ [b0] ∧ b0 ∉ [c, l] from ⟨by simp; omega, by simp; omega, by simp; omega⟩)
  clear R KR g0 hc hl
  go_enter Tryz.func23, Tryz.ntmps23
  go_wp2_with fail
  generalize W.alloc (.cells #[.int .i64 0, .int .i64 0, .int .i64 0] 29) = w0 at KA KR0 HF0 HT0 ⊢
  clear hb0
  refine KA.out.mono ?_
  rintro e w' ⟨rfl, rfl⟩
  clear KA
  go_wp2_with fail
  refine KR0.out.mono ?_
  rintro e w1 ⟨rfl, R1, T1⟩
  have F1 := HF0.out.turned T1 HN1.out.2.2
  have HT1 := Lib.hid (HT0.out.trans T1)
  have HR1 := Lib.hid R1
  have q0 := F1.c0
  have q1 := F1.c1
  have q2 := F1.c2
  have qf0 := F1.free 0
  have qf1 := F1.free 1
  have qf2 := F1.free 2
  have HF1 := Lib.hid F1
  clear R1 T1 HF0 HT0 KR0 F1
  go_upto_block 0 with fail
  have t1 : Tn w1 (((w1.setCell ⟨b0, 0, none⟩ (.int .i64 0)).setCell ⟨b0, 1, none⟩ (.int .i64 0)).setCell ⟨b0, 2, none⟩ (.int .i64 0)) [b0] := (((Tn.refl w1 [b0]).st (by simp)).st (by simp)).st (by simp)
  have HR2 := Lib.hid (rd_own HR1.out t1 HN1.out.1 HN1.out.2.1)
  have HT2 := Lib.hid (HT1.out.over t1 HZ.out)
  have F2 := HF1.out.set 0 0 0
  clear q0 q1 q2 qf0 qf1 qf2 t1 HF1 HT1 HR1
  generalize (((w1.setCell ⟨b0, 0, none⟩ (.int .i64 0)).setCell ⟨b0, 1, none⟩ (.int .i64 0)).setCell ⟨b0, 2, none⟩ (.int .i64 0)) = w2 at HR2 HT2 F2 ⊢
  have q0 := F2.c0
  have q1 := F2.c1
  have q2 := F2.c2
  have qf0 := F2.free 0
  have qf1 := F2.free 1
  have qf2 := F2.free 2
  have HF2 := Lib.hid F2
  clear F2
  go_wp2_with fail
  refine (qfault_calls 2 13 w2).mono ?_
  rintro e w3 ⟨rfl, g3⟩
  have F3 := HF2.out.turned (Tn.gb g3 (S := []) (by simp)) (by simp)
  have HR3 := Lib.hid (HR2.out.grown g3)
  have HT3 := Lib.hid (HT2.out.trans (Tn.gb g3 (by simp)))
  clear q0 q1 q2 qf0 qf1 qf2
  have q0 := F3.c0
  have q1 := F3.c1
  have q2 := F3.c2
  have qf0 := F3.free 0
  have qf1 := F3.free 1
  have qf2 := F3.free 2
  clear F3 g3 HF2
  unfold flF
  go_wp2
  refine bodyPost_ret (v := .tuple #[.int .i64 0, .int .i64 0, flF 5 2 13]) (by simp only [results, Tryz.results23, flF]; go_simp) rfl ?_
  have t3 : Tn w3 (((w3.setCell ⟨b0, 0, none⟩ (.int .i64 2)).setCell ⟨b0, 1, none⟩ (.int .i64 5)).setCell ⟨b0, 2, none⟩ (.int .i64 13)) [b0] := ((((Tn.refl w3 [b0]).st (by simp)).st (by simp)).st (by simp))
  exact ⟨rfl, rd_own HR3.out t3 HN1.out.1 HN1.out.2.1, HT3.out.over t3 HZ.out⟩

set_option maxRecDepth 100000 in
set_option maxHeartbeats 1000000 in
theorem qsides_ok3 (c l q gw gh c12 c13 : Nat) (s z : ByteArray) (x y : St) (W : World) (R : Rd c l s 0 x W) (hz : z.size = 14) (h12 : bt z 12 = c12) (h13 : bt z 13 = c13) (hc : c12 = 3) (hs : c13 ≤ 1)
    (KR : ∀ u, Rd c l s 0 x u → Calls Tryz.prog 43 #[.pointer (some ⟨c, 0, none⟩), .string sgQ, .int .i64 14, .int .i64 5] u (fun e w' => e = .returned (.tuple #[.int .i64 gw, .int .i64 gh, .string z, .agg #[.int .i64 0, .int .i64 0, .int .i64 0]]) ∧ Rd c l s q y w' ∧ Tn u w' [c, l])) :
    Calls Tryz.prog 23 #[.pointer (some ⟨c, 0, none⟩)] W (fun e w' => e = .returned (.tuple #[.int .i64 gw, .int .i64 gh, okT]) ∧ Rd c l s q y w' ∧ Tn W w' [c, l]) := by
  have k12 : 12 < z.size := by omega
  have k13 : 13 < z.size := by omega
  have y12 := bt_at z 12 k12
  have y13 := bt_at z 13 k13
  rw [h12] at y12
  rw [h13] at y13
  have e3 : ((c12 : Int) == 3) = true := by rw [beq_iff_eq]; omega
  have e3' : ((c12 : Int) != 3) = false := by rw [bne_eq_false_iff_eq]; omega
  have e4 : ((c12 : Int) == 4) = false := by rw [beq_eq_false_iff_ne]; omega
  have e4' : ((c12 : Int) != 4) = true := by rw [bne_iff_ne]; omega
  clear hc
  have e1 : ¬ ((1 : Int) < (c13 : Int)) := by omega
  have e2 : decide ((1 : Int) < (c13 : Int)) = false := decide_eq_false e1
  clear hs
  clear h12 h13 hz
  unfold sgQ at KR
  have g0 := World.grownBy_alloc W (.cells #[.int .i64 0, .int .i64 0, .int .i64 0] 29) none
  have hc := R.clt
  have hl := R.llt
  have KA := Lib.hid (at_rd c l s 0 x _ (R.grown g0))
  have KR0 := Lib.hid (KR _ (R.grown g0))
  have HF0 := Lib.hid (Fl.new W)
  have HT0 := Lib.hid (show Tn W (W.alloc (.cells #[.int .i64 0, .int .i64 0, .int .i64 0] 29)) [c, l] from Tn.gb g0 (by simp))
  obtain ⟨b0, hb0⟩ : ∃ i, W.heap.size = i := ⟨_, rfl⟩
  have HZ := Lib.hid (show ∀ i, i ∈ [b0] → W.heap.size ≤ i ∨ i ∈ [c, l] by intro i hi; simp at hi; left; omega)
  rw [hb0] at HF0 hc hl
  have HN1 := Lib.hid (show c ∉ [b0] ∧ l ∉ [b0] ∧ b0 ∉ [c, l] from ⟨by simp; omega, by simp; omega, by simp; omega⟩)
  clear R KR g0 hc hl
  go_enter Tryz.func23, Tryz.ntmps23
  go_wp2_with fail
  generalize W.alloc (.cells #[.int .i64 0, .int .i64 0, .int .i64 0] 29) = w0 at KA KR0 HF0 HT0 ⊢
  clear hb0
  refine KA.out.mono ?_
  rintro e w' ⟨rfl, rfl⟩
  clear KA
  go_wp2_with fail
  refine KR0.out.mono ?_
  rintro e w1 ⟨rfl, R1, T1⟩
  have F1 := HF0.out.turned T1 HN1.out.2.2
  have HT1 := Lib.hid (HT0.out.trans T1)
  have HR1 := Lib.hid R1
  have q0 := F1.c0
  have q1 := F1.c1
  have q2 := F1.c2
  have qf0 := F1.free 0
  have qf1 := F1.free 1
  have qf2 := F1.free 2
  have HF1 := Lib.hid F1
  clear R1 T1 HF0 HT0 KR0 F1
  go_upto_block 0 with fail
  have t1 : Tn w1 (((w1.setCell ⟨b0, 0, none⟩ (.int .i64 0)).setCell ⟨b0, 1, none⟩ (.int .i64 0)).setCell ⟨b0, 2, none⟩ (.int .i64 0)) [b0] := (((Tn.refl w1 [b0]).st (by simp)).st (by simp)).st (by simp)
  have HR2 := Lib.hid (rd_own HR1.out t1 HN1.out.1 HN1.out.2.1)
  have HT2 := Lib.hid (HT1.out.over t1 HZ.out)
  have F2 := HF1.out.set 0 0 0
  clear q0 q1 q2 qf0 qf1 qf2 t1 HF1 HT1 HR1
  generalize (((w1.setCell ⟨b0, 0, none⟩ (.int .i64 0)).setCell ⟨b0, 1, none⟩ (.int .i64 0)).setCell ⟨b0, 2, none⟩ (.int .i64 0)) = w2 at HR2 HT2 F2 ⊢
  have q0 := F2.c0
  have q1 := F2.c1
  have q2 := F2.c2
  have qf0 := F2.free 0
  have qf1 := F2.free 1
  have qf2 := F2.free 2
  have HF2 := Lib.hid F2
  clear F2
  go_wp2
  refine bodyPost_ret (v := .tuple #[.int .i64 gw, .int .i64 gh, okT]) (by simp only [results, Tryz.results23, okT]; go_simp) rfl ?_
  have t3 : Tn w2 (((w2.setCell ⟨b0, 0, none⟩ (.int .i64 0)).setCell ⟨b0, 1, none⟩ (.int .i64 0)).setCell ⟨b0, 2, none⟩ (.int .i64 0)) [b0] := ((((Tn.refl w2 [b0]).st (by simp)).st (by simp)).st (by simp))
  exact ⟨rfl, rd_own HR2.out t3 HN1.out.1 HN1.out.2.1, HT2.out.over t3 HZ.out⟩

set_option maxRecDepth 100000 in
set_option maxHeartbeats 1000000 in
theorem qsides_sp4 (c l q gw gh c12 c13 : Nat) (s z : ByteArray) (x y : St) (W : World) (R : Rd c l s 0 x W) (hz : z.size = 14) (h12 : bt z 12 = c12) (h13 : bt z 13 = c13) (hc : c12 = 4) (hs : 1 < c13)
    (KR : ∀ u, Rd c l s 0 x u → Calls Tryz.prog 43 #[.pointer (some ⟨c, 0, none⟩), .string sgQ, .int .i64 14, .int .i64 5] u (fun e w' => e = .returned (.tuple #[.int .i64 gw, .int .i64 gh, .string z, .agg #[.int .i64 0, .int .i64 0, .int .i64 0]]) ∧ Rd c l s q y w' ∧ Tn u w' [c, l])) :
    Calls Tryz.prog 23 #[.pointer (some ⟨c, 0, none⟩)] W (fun e w' => e = .returned (.tuple #[.int .i64 0, .int .i64 0, flF 5 2 13]) ∧ Rd c l s q y w' ∧ Tn W w' [c, l]) := by
  have k12 : 12 < z.size := by omega
  have k13 : 13 < z.size := by omega
  have y12 := bt_at z 12 k12
  have y13 := bt_at z 13 k13
  rw [h12] at y12
  rw [h13] at y13
  have e3 : ((c12 : Int) == 3) = false := by rw [beq_eq_false_iff_ne]; omega
  have e3' : ((c12 : Int) != 3) = true := by rw [bne_iff_ne]; omega
  have e4 : ((c12 : Int) == 4) = true := by rw [beq_iff_eq]; omega
  have e4' : ((c12 : Int) != 4) = false := by rw [bne_eq_false_iff_eq]; omega
  clear hc
  have e1 : ((1 : Int) < (c13 : Int)) := by omega
  have e2 : decide ((1 : Int) < (c13 : Int)) = true := decide_eq_true e1
  clear hs
  clear h12 h13 hz
  unfold sgQ at KR
  have g0 := World.grownBy_alloc W (.cells #[.int .i64 0, .int .i64 0, .int .i64 0] 29) none
  have hc := R.clt
  have hl := R.llt
  have KA := Lib.hid (at_rd c l s 0 x _ (R.grown g0))
  have KR0 := Lib.hid (KR _ (R.grown g0))
  have HF0 := Lib.hid (Fl.new W)
  have HT0 := Lib.hid (show Tn W (W.alloc (.cells #[.int .i64 0, .int .i64 0, .int .i64 0] 29)) [c, l] from Tn.gb g0 (by simp))
  obtain ⟨b0, hb0⟩ : ∃ i, W.heap.size = i := ⟨_, rfl⟩
  have HZ := Lib.hid (show ∀ i, i ∈ [b0] → W.heap.size ≤ i ∨ i ∈ [c, l] by intro i hi; simp at hi; left; omega)
  rw [hb0] at HF0 hc hl
  have HN1 := Lib.hid (show c ∉ [b0] ∧ l ∉ [b0] ∧ b0 ∉ [c, l] from ⟨by simp; omega, by simp; omega, by simp; omega⟩)
  clear R KR g0 hc hl
  go_enter Tryz.func23, Tryz.ntmps23
  go_wp2_with fail
  generalize W.alloc (.cells #[.int .i64 0, .int .i64 0, .int .i64 0] 29) = w0 at KA KR0 HF0 HT0 ⊢
  clear hb0
  refine KA.out.mono ?_
  rintro e w' ⟨rfl, rfl⟩
  clear KA
  go_wp2_with fail
  refine KR0.out.mono ?_
  rintro e w1 ⟨rfl, R1, T1⟩
  have F1 := HF0.out.turned T1 HN1.out.2.2
  have HT1 := Lib.hid (HT0.out.trans T1)
  have HR1 := Lib.hid R1
  have q0 := F1.c0
  have q1 := F1.c1
  have q2 := F1.c2
  have qf0 := F1.free 0
  have qf1 := F1.free 1
  have qf2 := F1.free 2
  have HF1 := Lib.hid F1
  clear R1 T1 HF0 HT0 KR0 F1
  go_upto_block 0 with fail
  have t1 : Tn w1 (((w1.setCell ⟨b0, 0, none⟩ (.int .i64 0)).setCell ⟨b0, 1, none⟩ (.int .i64 0)).setCell ⟨b0, 2, none⟩ (.int .i64 0)) [b0] := (((Tn.refl w1 [b0]).st (by simp)).st (by simp)).st (by simp)
  have HR2 := Lib.hid (rd_own HR1.out t1 HN1.out.1 HN1.out.2.1)
  have HT2 := Lib.hid (HT1.out.over t1 HZ.out)
  have F2 := HF1.out.set 0 0 0
  clear q0 q1 q2 qf0 qf1 qf2 t1 HF1 HT1 HR1
  generalize (((w1.setCell ⟨b0, 0, none⟩ (.int .i64 0)).setCell ⟨b0, 1, none⟩ (.int .i64 0)).setCell ⟨b0, 2, none⟩ (.int .i64 0)) = w2 at HR2 HT2 F2 ⊢
  have q0 := F2.c0
  have q1 := F2.c1
  have q2 := F2.c2
  have qf0 := F2.free 0
  have qf1 := F2.free 1
  have qf2 := F2.free 2
  have HF2 := Lib.hid F2
  clear F2
  go_wp2_with fail
  refine (qfault_calls 2 13 w2).mono ?_
  rintro e w3 ⟨rfl, g3⟩
  have F3 := HF2.out.turned (Tn.gb g3 (S := []) (by simp)) (by simp)
  have HR3 := Lib.hid (HR2.out.grown g3)
  have HT3 := Lib.hid (HT2.out.trans (Tn.gb g3 (by simp)))
  clear q0 q1 q2 qf0 qf1 qf2
  have q0 := F3.c0
  have q1 := F3.c1
  have q2 := F3.c2
  have qf0 := F3.free 0
  have qf1 := F3.free 1
  have qf2 := F3.free 2
  clear F3 g3 HF2
  unfold flF
  go_wp2
  refine bodyPost_ret (v := .tuple #[.int .i64 0, .int .i64 0, flF 5 2 13]) (by simp only [results, Tryz.results23, flF]; go_simp) rfl ?_
  have t3 : Tn w3 (((w3.setCell ⟨b0, 0, none⟩ (.int .i64 2)).setCell ⟨b0, 1, none⟩ (.int .i64 5)).setCell ⟨b0, 2, none⟩ (.int .i64 13)) [b0] := ((((Tn.refl w3 [b0]).st (by simp)).st (by simp)).st (by simp))
  exact ⟨rfl, rd_own HR3.out t3 HN1.out.1 HN1.out.2.1, HT3.out.over t3 HZ.out⟩

set_option maxRecDepth 100000 in
set_option maxHeartbeats 1000000 in
theorem qsides_ok4 (c l q gw gh c12 c13 : Nat) (s z : ByteArray) (x y : St) (W : World) (R : Rd c l s 0 x W) (hz : z.size = 14) (h12 : bt z 12 = c12) (h13 : bt z 13 = c13) (hc : c12 = 4) (hs : c13 ≤ 1)
    (KR : ∀ u, Rd c l s 0 x u → Calls Tryz.prog 43 #[.pointer (some ⟨c, 0, none⟩), .string sgQ, .int .i64 14, .int .i64 5] u (fun e w' => e = .returned (.tuple #[.int .i64 gw, .int .i64 gh, .string z, .agg #[.int .i64 0, .int .i64 0, .int .i64 0]]) ∧ Rd c l s q y w' ∧ Tn u w' [c, l])) :
    Calls Tryz.prog 23 #[.pointer (some ⟨c, 0, none⟩)] W (fun e w' => e = .returned (.tuple #[.int .i64 gw, .int .i64 gh, okT]) ∧ Rd c l s q y w' ∧ Tn W w' [c, l]) := by
  have k12 : 12 < z.size := by omega
  have k13 : 13 < z.size := by omega
  have y12 := bt_at z 12 k12
  have y13 := bt_at z 13 k13
  rw [h12] at y12
  rw [h13] at y13
  have e3 : ((c12 : Int) == 3) = false := by rw [beq_eq_false_iff_ne]; omega
  have e3' : ((c12 : Int) != 3) = true := by rw [bne_iff_ne]; omega
  have e4 : ((c12 : Int) == 4) = true := by rw [beq_iff_eq]; omega
  have e4' : ((c12 : Int) != 4) = false := by rw [bne_eq_false_iff_eq]; omega
  clear hc
  have e1 : ¬ ((1 : Int) < (c13 : Int)) := by omega
  have e2 : decide ((1 : Int) < (c13 : Int)) = false := decide_eq_false e1
  clear hs
  clear h12 h13 hz
  unfold sgQ at KR
  have g0 := World.grownBy_alloc W (.cells #[.int .i64 0, .int .i64 0, .int .i64 0] 29) none
  have hc := R.clt
  have hl := R.llt
  have KA := Lib.hid (at_rd c l s 0 x _ (R.grown g0))
  have KR0 := Lib.hid (KR _ (R.grown g0))
  have HF0 := Lib.hid (Fl.new W)
  have HT0 := Lib.hid (show Tn W (W.alloc (.cells #[.int .i64 0, .int .i64 0, .int .i64 0] 29)) [c, l] from Tn.gb g0 (by simp))
  obtain ⟨b0, hb0⟩ : ∃ i, W.heap.size = i := ⟨_, rfl⟩
  have HZ := Lib.hid (show ∀ i, i ∈ [b0] → W.heap.size ≤ i ∨ i ∈ [c, l] by intro i hi; simp at hi; left; omega)
  rw [hb0] at HF0 hc hl
  have HN1 := Lib.hid (show c ∉ [b0] ∧ l ∉ [b0] ∧ b0 ∉ [c, l] from ⟨by simp; omega, by simp; omega, by simp; omega⟩)
  clear R KR g0 hc hl
  go_enter Tryz.func23, Tryz.ntmps23
  go_wp2_with fail
  generalize W.alloc (.cells #[.int .i64 0, .int .i64 0, .int .i64 0] 29) = w0 at KA KR0 HF0 HT0 ⊢
  clear hb0
  refine KA.out.mono ?_
  rintro e w' ⟨rfl, rfl⟩
  clear KA
  go_wp2_with fail
  refine KR0.out.mono ?_
  rintro e w1 ⟨rfl, R1, T1⟩
  have F1 := HF0.out.turned T1 HN1.out.2.2
  have HT1 := Lib.hid (HT0.out.trans T1)
  have HR1 := Lib.hid R1
  have q0 := F1.c0
  have q1 := F1.c1
  have q2 := F1.c2
  have qf0 := F1.free 0
  have qf1 := F1.free 1
  have qf2 := F1.free 2
  have HF1 := Lib.hid F1
  clear R1 T1 HF0 HT0 KR0 F1
  go_upto_block 0 with fail
  have t1 : Tn w1 (((w1.setCell ⟨b0, 0, none⟩ (.int .i64 0)).setCell ⟨b0, 1, none⟩ (.int .i64 0)).setCell ⟨b0, 2, none⟩ (.int .i64 0)) [b0] := (((Tn.refl w1 [b0]).st (by simp)).st (by simp)).st (by simp)
  have HR2 := Lib.hid (rd_own HR1.out t1 HN1.out.1 HN1.out.2.1)
  have HT2 := Lib.hid (HT1.out.over t1 HZ.out)
  have F2 := HF1.out.set 0 0 0
  clear q0 q1 q2 qf0 qf1 qf2 t1 HF1 HT1 HR1
  generalize (((w1.setCell ⟨b0, 0, none⟩ (.int .i64 0)).setCell ⟨b0, 1, none⟩ (.int .i64 0)).setCell ⟨b0, 2, none⟩ (.int .i64 0)) = w2 at HR2 HT2 F2 ⊢
  have q0 := F2.c0
  have q1 := F2.c1
  have q2 := F2.c2
  have qf0 := F2.free 0
  have qf1 := F2.free 1
  have qf2 := F2.free 2
  have HF2 := Lib.hid F2
  clear F2
  go_wp2
  refine bodyPost_ret (v := .tuple #[.int .i64 gw, .int .i64 gh, okT]) (by simp only [results, Tryz.results23, okT]; go_simp) rfl ?_
  have t3 : Tn w2 (((w2.setCell ⟨b0, 0, none⟩ (.int .i64 0)).setCell ⟨b0, 1, none⟩ (.int .i64 0)).setCell ⟨b0, 2, none⟩ (.int .i64 0)) [b0] := ((((Tn.refl w2 [b0]).st (by simp)).st (by simp)).st (by simp))
  exact ⟨rfl, rd_own HR2.out t3 HN1.out.1 HN1.out.2.1, HT2.out.over t3 HZ.out⟩

end Go.Proofs.YtmhghkgcfgacdaaGreat.Qo
