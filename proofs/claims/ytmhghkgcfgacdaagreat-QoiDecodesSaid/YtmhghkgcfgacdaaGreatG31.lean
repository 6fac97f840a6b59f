/- Texts of one kind, one behind the other: Qo8, Qo9. -/
import Derived.BigRegion
import Derived.Test.YtmhghkgcfgacdaaGreatG28
import Derived.Test.YtmhghkgcfgacdaaGreatG30
/- Layer 26: a raster is filled, by any ledger. (Written by gen/qo8.py.) -/
namespace Go.Proofs.YtmhghkgcfgacdaaGreat.Qo
open Go.ChangeShapes Go.WideShapes Go.ChangeAt Go.RowKit
open Go.Proofs.YtmhghkgcfgacdaaGreat.Le Go.Proofs.YtmhghkgcfgacdaaGreat.Tk Go.Proofs.YtmhghkgcfgacdaaGreat.Sr Go.Proofs.YtmhghkgcfgacdaaGreat.Sh Go.Proofs.YtmhghkgcfgacdaaGreat.Qw
open Go.Proofs.YtmhghkgcfgacdaaGreat.Ra hiding bt
set_option linter.unusedVariables false

theorem FB.on {W w : World} {c l r cb g : Nat} (h : FB W c l r cb g) (hs : W.heap.size ≤ w.heap.size) : FB w c l r cb g := by
  have h1 := h.pc
  have h2 := h.pl
  have h3 := h.pr
  have h4 := h.pb
  have h5 := h.pg
  exact ⟨by omega, by omega, by omega, by omega, by omega, h.ncl, h.ncr, h.ncb, h.ncg, h.nlr, h.nlb, h.nlg, h.nrb, h.nrg, h.nbg⟩
theorem BQ.of {W w : World} {c l r cb g L : Nat} (h : FB W c l r cb g) (hs : W.heap.size ≤ L) (hl : L < w.heap.size) : BQ w c l r cb g L := by
  have h1 := h.pc
  have h2 := h.pl
  have h3 := h.pr
  have h4 := h.pb
  have h5 := h.pg
  exact ⟨FB.on h (by omega), hl, by omega, by omega, by omega, by omega, by omega⟩

set_option maxRecDepth 100000 in
set_option maxHeartbeats 4000000 in
theorem qfill_calls (c l r cb g gw gh n J f p N : Nat) (s : ByteArray) (x : St) (W : World) (B : FB W c l r cb g) (hw : gw ≤ 16384) (hh : gh ≤ 16384) (hn : gw * gh = n) (hr : x.r = 0) (E : QE s n J f p N)
    (R : Rd c l s 14 x W) (O : Ro r l cb g gw gh (Bu.rep 0 (4 * n)) W) :
    Calls Tryz.prog 28 #[.pointer (some ⟨c, 0, none⟩), .pointer (some ⟨r, 0, none⟩)] W (FO 5 W c l r cb g gw gh (CF (sq s J)) s x f p N n) := by
  obtain ⟨Q, hQ⟩ : ∃ Q, FO 5 W c l r cb g gw gh (CF (sq s J)) s x f p N n = Q := ⟨_, rfl⟩
  rw [hQ]
  have HQ := Lib.hid hQ
  have HB := Lib.hid B
  have HE := Lib.hid E
  have g0 := World.grownBy_alloc W (.cells #[.int .i64 0, .int .i64 0, .int .i64 0] 29) none
  have HG0 := Lib.hid g0
  have HR0 := Lib.hid (R.grown g0)
  have HO0 := Lib.hid (O.grown g0 (by simp) (by simp) (by simp))
  have HF0 := Lib.hid (Fl.new W)
  have z0 : (W.alloc (.cells #[.int .i64 0, .int .i64 0, .int .i64 0] 29)).heap.size = W.heap.size + 1 := size_alloc _ _
  have n16 : n ≤ 268435456 := by rw [← hn]; exact Nat.le_trans (Nat.mul_le_mul hw hh) (by decide)
  have wm : IntKind.i64.wrap ((gw : Int) * (gh : Int)) = (n : Int) := by
    have e : (gw : Int) * (gh : Int) = (n : Int) := by rw [← hn]; exact (Int.natCast_mul gw gh).symm
    rw [e]
    exact IntWalk.i64_in _ (by omega)
  have HX := Lib.hid (And.intro hr (And.intro hn (And.intro hw hh)))
  obtain ⟨b0, hb0⟩ : ∃ i, W.heap.size = i := ⟨_, rfl⟩
  have HZ := Lib.hid hb0
  rw [hb0] at HF0 z0
  have HZ0 := Lib.hid z0
  have HN0 := Lib.hid (show b0 ≠ c ∧ b0 ≠ l ∧ b0 ≠ r ∧ b0 ≠ cb ∧ b0 ≠ g by
    have h1 := B.pc
    have h2 := B.pl
    have h3 := B.pr
    have h4 := B.pb
    have h5 := B.pg
    exact ⟨by omega, by omega, by omega, by omega, by omega⟩)
  clear hQ g0 B E R O hr hn hw hh n16 z0
  go_enter Tryz.func28, Tryz.ntmps28
  go_wp2_with fail
  generalize W.alloc (.cells #[.int .i64 0, .int .i64 0, .int .i64 0] 29) = w0 at HG0 HR0 HO0 HF0 HZ0 ⊢
  clear hb0
  have KM := Lib.hid (memory_calls w0)
  refine KM.out.mono ?_
  rintro e w1 ⟨rfl, g1⟩
  have HG1 := Lib.hid (gb_trans HG0.out g1)
  have HR1 := Lib.hid (HR0.out.grown g1)
  have HO1 := Lib.hid (HO0.out.grown g1 (by simp) (by simp) (by simp))
  have HF1 := Lib.hid (HF0.out.turned (Tn.gb g1 (S := []) (by simp)) (by simp))
  have HZ1 := Lib.hid (show b0 < w1.heap.size by have h1 := HZ0.out; have h2 := g1.size; omega)
  have KW := Lib.hid (width_calls r l cb g gw gh _ w1 HO1.out)
  have KH := Lib.hid (height_calls r l cb g gw gh _ w1 HO1.out)
  clear KM g1 HG0 HR0 HO0 HF0 HZ0
  go_wp2_with fail
  refine KW.out.mono ?_
  rintro e w' ⟨rfl, rfl⟩
  go_wp2_with fail
  refine KH.out.mono ?_
  rintro e w' ⟨rfl, rfl⟩
  clear KW KH
  have ml := mem0_len
  have fz : (List.foldl (fun cs x => cs.setIfInBounds x.snd x.fst) Tryz.zeroCells124 mem0.zipIdx).size = 264 := by rw [mem1_z, List.size_toArray, List.length_append, mem0_len]; rfl
  go_wp2_with fail
  clear ml fz
  rw [mem1_store w1 c r n]
  have g2 : w1.grownBy ((w1.alloc (.cells Tryz.zeroCells124 124)).setRow w1.heap.size (mem1 c r n).toArray) none := gb_own (World.grownBy_alloc w1 (.cells Tryz.zeroCells124 124) none) (Nat.le_refl _) ⟨rfl, rfl, rfl, by simp, fun k _ hk => setRow_other _ _ k _ (fun e => hk (by rw [e]))⟩
  have HL2 := Lib.hid (setRow_heap (w1.alloc (.cells Tryz.zeroCells124 124)) w1.heap.size Tryz.zeroCells124 (mem1 c r n).toArray 124 (0, 0) blk_at)
  have HR2 := Lib.hid (HR1.out.grown g2)
  have HO2 := Lib.hid (HO1.out.grown g2 (by simp) (by simp) (by simp))
  have HF2 := Lib.hid (HF1.out.turned (Tn.gb g2 (S := []) (by simp)) (by simp))
  have HG2 := Lib.hid (gb_trans HG1.out g2)
  obtain ⟨L, hL⟩ : ∃ L, w1.heap.size = L := ⟨_, rfl⟩
  have HLW := Lib.hid (show W.heap.size ≤ L ∧ b0 < L by have h1 := HZ.out; have h2 := HZ1.out; omega)
  rw [hL] at HL2 HR2 HO2 HF2 HG2 ⊢
  generalize (w1.alloc (.cells Tryz.zeroCells124 124)).setRow L (mem1 c r n).toArray = w2 at HL2 HR2 HO2 HF2 HG2 ⊢
  have KP := Lib.hid (read_calls c l r cb g L gw gh n J f p N s x w2 (BQ.of HB.out HLW.out.1 (blk_lt HL2.out)) HX.out.2.2.1 HX.out.2.2.2 HX.out.2.1 HX.out.1 HE.out ⟨_, mem1_pb L c r n w2 HL2.out⟩ HR2.out HO2.out)
  have HB1 := Lib.hid (show c ∉ [b0] ∧ l ∉ [b0] ∧ r ∉ [b0] ∧ cb ∉ [b0] ∧ g ∉ [b0] by
    obtain ⟨h1, h2, h3, h4, h5⟩ := HN0.out
    exact ⟨by simp [h1.symm], by simp [h2.symm], by simp [h3.symm], by simp [h4.symm], by simp [h5.symm]⟩)
  have HB2 := Lib.hid (show b0 ∉ [c, l, g, L] ∧ b0 ∉ [c, l] by
    obtain ⟨h1, h2, h3, h4, h5⟩ := HN0.out
    have h6 : b0 ≠ L := by have := HLW.out.2; omega
    exact ⟨by simp [h1, h2, h5, h6], by simp [h1, h2]⟩)
  clear hL wm
  go_wp2_with fail
  refine KP.out.mono ?_
  rintro e w3 h3
  obtain ⟨q, y, R3, T3, lm3, by3, ⟨A, O3⟩, hc⟩ := h3
  have hb : ((sq s J).i = n ∧ e = .returned okT ∧ Rd c l s (sq s J).p (stp x (sq s J).N) w3 ∧ Ro r l cb g gw gh (rk (CF (sq s J)) n n) w3) ∨ (∃ k j : Int, e = .returned (flF 5 k j) ∧ k ≠ 0 ∧ ((f ≠ 0 ∧ k = f ∧ j = p ∧ y.r = 0) ∨ (x.s < x.st + (N : Int) ∧ k = 4 ∧ (∃ m : Nat, m ≤ s.size ∧ j = m) ∧ y.r ≠ 0))) := by
    rcases hc with ⟨c1, c2, rfl, rfl, c5⟩ | ⟨c1, c2, c3, c4⟩ | ⟨c1, ⟨m, c2, c3⟩, c4⟩
    · exact .inl ⟨c1, c2, R3, c5⟩
    · exact .inr ⟨f, p, c3, by omega, .inl ⟨c2, rfl, rfl, c4⟩⟩
    · exact .inr ⟨4, m, c3, by decide, .inr ⟨c1, rfl, ⟨m, c2, rfl⟩, c4⟩⟩
  have HF3 := Lib.hid (HF2.out.turned T3 HB2.out.1)
  have HT3 := Lib.hid ((Tn.gb HG2.out (by simp) : Tn W w2 [c, l, g]).over T3 (by
    intro i hi
    simp at hi
    rcases hi with rfl | rfl | rfl | rfl
    · exact .inr (by simp)
    · exact .inr (by simp)
    · exact .inr (by simp)
    · exact .inl HLW.out.1))
  have HZ3 := Lib.hid (show b0 < w3.heap.size by have h1 := HLW.out.2; have h2 := T3.size; have h3 := blk_lt HL2.out; omega)
  have HR3 := Lib.hid (And.intro R3 (And.intro lm3 by3))
  have HO3 := Lib.hid O3
  clear hc KP R3 T3 lm3 by3 O3 HL2 HR2 HO2 HF2 HG2
  rcases hb with ⟨hi, rfl, R3, O3⟩ | ⟨k, j, rfl, hk, hcs⟩
  · have HEQ := Lib.hid (show EndQ s (sq s J).p (sq s J).N f p N by
      rcases HE.out.ed with ⟨_, h⟩ | ⟨h, _⟩ | ⟨h, _⟩ | ⟨h, _⟩
      · exact h
      · omega
      · omega
      · omega)
    have G4 := World.grownBy_alloc w3 (.cells #[.int .i64 0, .int .i64 0, .int .i64 0] 29) none
    have F4 : Fl w3.heap.size 0 0 0 (w3.alloc (.cells #[.int .i64 0, .int .i64 0, .int .i64 0] 29)) := blk_at
    have p0 := F4.c0
    have HR4 := Lib.hid (R3.grown G4)
    have HO4 := Lib.hid (O3.grown G4 (by simp) (by simp) (by simp))
    have HT4 := Lib.hid (HT3.out.trans (Tn.gb G4 (by simp)))
    have HF4 := Lib.hid (HF3.out.turned (Tn.gb G4 (S := []) (by simp)) (by simp))
    clear G4 F4 R3 O3 HR3 HO3 hi HF3 HT3
    unfold okT
    go_wp2_with fail
    generalize w3.alloc (.cells #[.int .i64 0, .int .i64 0, .int .i64 0] 29) = w4 at p0 HR4 HO4 HT4 HF4 ⊢
    have KE := Lib.hid (end_calls c l f p (sq s J).p (sq s J).N N s x w4 HR4.out HX.out.1 HEQ.out)
    try go_wp2_with fail
    refine KE.out.mono ?_
    rintro e w5 h5
    obtain ⟨q5, y5, R5, T5, lm5, by5, hc5⟩ := h5
    have F5 := HF4.out.turned T5 HB2.out.2
    have HT5 := Lib.hid (HT4.out.trans (T5.mono (by intro i hi; simp at hi ⊢; omega)))
    have HO5 := Lib.hid (ro_t HO4.out T5 (by simp [HB.out.ncr.symm, HB.out.nlr.symm]) (by simp [HB.out.ncb.symm, HB.out.nlb.symm]) (by simp [HB.out.ncg.symm, HB.out.nlg.symm]))
    have HR5 := Lib.hid (And.intro R5 (And.intro lm5 by5))
    clear R5 T5 lm5 by5 p0 KE HR4 HO4 HT4 HF4
    have hb5 : (f = 0 ∧ e = .returned okT ∧ y5.r = 0) ∨ (∃ k j : Int, e = .returned (flF 5 k j) ∧ ((f ≠ 0 ∧ k = f ∧ j = p ∧ y5.r = 0) ∨ (x.s < x.st + (N : Int) ∧ k = 4 ∧ (∃ m : Nat, m ≤ s.size ∧ j = m) ∧ y5.r ≠ 0))) := by
      rcases hc5 with h | ⟨h1, h2, h3⟩ | ⟨c1, ⟨m, c2, c3⟩, c4⟩
      · exact .inl h
      · exact .inr ⟨f, p, h2, .inl ⟨h1, rfl, rfl, h3⟩⟩
      · exact .inr ⟨4, m, c3, .inr ⟨c1, rfl, ⟨m, c2, rfl⟩, c4⟩⟩
    clear hc5
    rcases hb5 with ⟨f0, rfl, yr⟩ | ⟨k, j, rfl, hcs⟩
    · unfold okT
      have q0 := F5.c0
      have q1 := F5.c1
      have q2 := F5.c2
      have qf0 := F5.free 0
      have qf1 := F5.free 1
      have qf2 := F5.free 2
      have qlt := F5.lt
      clear F5
      go_wp2
      refine bodyPost_ret (v := okT) (by simp only [results, Tryz.results28, okT]; go_simp) rfl ?_
      rw [← HQ.out]
      have t6 : Tn w5 (((w5.setCell ⟨b0, 0, none⟩ (.int .i64 0)).setCell ⟨b0, 1, none⟩ (.int .i64 0)).setCell ⟨b0, 2, none⟩ (.int .i64 0)) [b0] := (((Tn.refl w5 [b0]).st (by simp)).st (by simp)).st (by simp)
      refine ⟨q5, y5, rd_own HR5.out.1 t6 HB1.out.1 HB1.out.2.1, HT5.out.over t6 (by intro i hi; simp at hi; left; rw [HZ.out, hi]; exact Nat.le_refl _), HR5.out.2.1, HR5.out.2.2, ⟨_, ro_t HO5.out t6 HB1.out.2.2.1 HB1.out.2.2.2.1 HB1.out.2.2.2.2⟩, ?_⟩
      exact .inl ⟨f0, rfl, yr, ro_t HO5.out t6 HB1.out.2.2.1 HB1.out.2.2.2.1 HB1.out.2.2.2.2⟩
    · have HC := Lib.hid hcs
      clear hcs
      unfold flF
      have q0 := F5.c0
      have q1 := F5.c1
      have q2 := F5.c2
      have qf0 := F5.free 0
      have qf1 := F5.free 1
      have qf2 := F5.free 2
      have qlt := F5.lt
      clear F5
      go_wp2
      refine bodyPost_ret (v := flF 5 k j) (by simp only [results, Tryz.results28, flF]; go_simp) rfl ?_
      rw [← HQ.out]
      have t6 : Tn w5 (((w5.setCell ⟨b0, 0, none⟩ (.int .i64 k)).setCell ⟨b0, 1, none⟩ (.int .i64 5)).setCell ⟨b0, 2, none⟩ (.int .i64 j)) [b0] := (((Tn.refl w5 [b0]).st (by simp)).st (by simp)).st (by simp)
      refine ⟨q5, y5, rd_own HR5.out.1 t6 HB1.out.1 HB1.out.2.1, HT5.out.over t6 (by intro i hi; simp at hi; left; rw [HZ.out, hi]; exact Nat.le_refl _), HR5.out.2.1, HR5.out.2.2, ⟨_, ro_t HO5.out t6 HB1.out.2.2.1 HB1.out.2.2.2.1 HB1.out.2.2.2.2⟩, ?_⟩
      rcases HC.out with ⟨c1, c2, c3, c4⟩ | ⟨c1, c2, ⟨m, c3, c4⟩, c5⟩
      · exact .inr (.inl ⟨c1, by rw [c2, c3], c4⟩)
      · exact .inr (.inr ⟨c1, ⟨m, c3, by rw [c2, c4]⟩, c5⟩)
  · have HC := Lib.hid hcs
    have G4 := World.grownBy_alloc w3 (.cells #[.int .i64 k, .int .i64 5, .int .i64 j] 29) none
    have F4 : Fl w3.heap.size k 5 j (w3.alloc (.cells #[.int .i64 k, .int .i64 5, .int .i64 j] 29)) := blk_at
    have p0 := F4.c0
    have p1 := F4.c1
    have p2 := F4.c2
    have HR4 := Lib.hid (And.intro (HR3.out.1.grown G4) HR3.out.2)
    have HO4 := Lib.hid (HO3.out.grown G4 (by simp) (by simp) (by simp))
    have HT4 := Lib.hid (HT3.out.trans (Tn.gb G4 (by simp)))
    have FF := HF3.out.turned (Tn.gb G4 (S := []) (by simp)) (by simp)
    have m0 : ¬ w3.heap.size = b0 := by have := HZ3.out; omega
    have m1 : ¬ b0 = w3.heap.size := by have := HZ3.out; omega
    have e1 : (k == 0) = false := by rw [beq_eq_false_iff_ne]; exact hk
    have e2 : (k != 0) = true := by rw [bne_iff_ne]; exact hk
    clear G4 F4 hcs HR3 HO3 HF3 HT3
    have HFF := Lib.hid FF
    have q0 := FF.c0
    have q1 := FF.c1
    have q2 := FF.c2
    have qf0 := FF.free 0
    have qf1 := FF.free 1
    have qf2 := FF.free 2
    have qlt := FF.lt
    clear FF
    unfold flF
    go_wp2_with fail
    clear q0 q1 q2 qf0 qf1 qf2
    generalize w3.alloc (.cells #[.int .i64 k, .int .i64 5, .int .i64 j] 29) = w4 at p0 p1 p2 HR4 HO4 HT4 HFF ⊢
    have FF := HFF.out
    have q0 := FF.c0
    have q1 := FF.c1
    have q2 := FF.c2
    have qf0 := FF.free 0
    have qf1 := FF.free 1
    have qf2 := FF.free 2
    clear FF
    try go_wp2
    refine bodyPost_ret (v := flF 5 k j) (by simp only [results, Tryz.results28, flF]; go_simp) rfl ?_
    rw [← HQ.out]
    have t6 : Tn w4 (((w4.setCell ⟨b0, 0, none⟩ (.int .i64 k)).setCell ⟨b0, 1, none⟩ (.int .i64 5)).setCell ⟨b0, 2, none⟩ (.int .i64 j)) [b0] := (((Tn.refl w4 [b0]).st (by simp)).st (by simp)).st (by simp)
    refine ⟨q, y, rd_own HR4.out.1 t6 HB1.out.1 HB1.out.2.1, HT4.out.over t6 (by intro i hi; simp at hi; left; rw [HZ.out, hi]; exact Nat.le_refl _), HR4.out.2.1, HR4.out.2.2, ⟨_, ro_t HO4.out t6 HB1.out.2.2.1 HB1.out.2.2.2.1 HB1.out.2.2.2.2⟩, ?_⟩
    rcases HC.out with ⟨c1, c2, c3, c4⟩ | ⟨c1, c2, ⟨m, c3, c4⟩, c5⟩
    · exact .inr (.inl ⟨c1, by rw [c2, c3], c4⟩)
    · exact .inr (.inr ⟨c1, ⟨m, c3, by rw [c2, c4]⟩, c5⟩)

end Go.Proofs.YtmhghkgcfgacdaaGreat.Qo

/- QOI: Decode, by any ledger (written by wip/gen/dec13.py). -/
namespace Go.Proofs.YtmhghkgcfgacdaaGreat.Qo
open Go.ChangeShapes Go.WideShapes Go.ChangeAt Go.RowKit
open Go.Proofs.YtmhghkgcfgacdaaGreat.Le Go.Proofs.YtmhghkgcfgacdaaGreat.Tk Go.Proofs.YtmhghkgcfgacdaaGreat.Sr Go.Proofs.YtmhghkgcfgacdaaGreat.Sh Go.Proofs.YtmhghkgcfgacdaaGreat.Qw
open Go.Proofs.YtmhghkgcfgacdaaGreat.Ra hiding bt
set_option linter.unusedVariables false

set_option maxRecDepth 100000 in
set_option maxHeartbeats 2000000 in
theorem ddec_bad (c l q : Nat) (s : ByteArray) (x y : St) (k j : Int) (f p w h N : Nat) (A : ByteArray) (W : World) (R : Rd c l s 0 x W)
    (KS : ∀ u, Rd c l s 0 x u → Calls Tryz.prog 23 #[.pointer (some ⟨c, 0, none⟩)] u (fun e w' => e = .returned (.tuple #[.int .i64 0, .int .i64 0, flF 5 k j]) ∧ Rd c l s q y w' ∧ Tn u w' [c, l]))
    (hk : k ≠ 0) (lm : Lm x y) (hby : y.by_ = x.by_) (hc4 : (f ≠ 0 ∧ k = f ∧ j = p ∧ y.r = 0) ∨ (k = 4 ∧ 0 ≤ j ∧ j ≤ s.size ∧ y.r ≠ 0 ∧ x.s < x.st + (N : Int))) :
    Calls Tryz.prog 9 #[.pointer (some ⟨c, 0, none⟩)] W (DT 5 W s c l x f p w h N A) := by
  obtain ⟨Q, hQ⟩ : ∃ Q, DT 5 W s c l x f p w h N A = Q := ⟨_, rfl⟩
  rw [hQ]
  have HQ := Lib.hid hQ
  unfold flF at KS
  have g0 := World.grownBy_alloc W (.cells #[.int .i64 0, .int .i64 0, .int .i64 0] 29) none
  have hc := R.clt
  have hl := R.llt
  have KS0 := Lib.hid (KS _ (R.grown g0))
  have HF0 := Lib.hid (Fl.new W)
  have HT0 := Lib.hid (show Tn W (W.alloc (.cells #[.int .i64 0, .int .i64 0, .int .i64 0] 29)) [c, l] from Tn.gb g0 (by simp))
  have z0 : (W.alloc (.cells #[.int .i64 0, .int .i64 0, .int .i64 0] 29)).heap.size = W.heap.size + 1 := size_alloc _ _
  have HY := Lib.hid (And.intro lm (And.intro hby hc4))
  clear R KS g0 hQ lm hby hc4
  go_enter Tryz.func9, Tryz.ntmps9
  go_wp2_with fail
  generalize W.alloc (.cells #[.int .i64 0, .int .i64 0, .int .i64 0] 29) = w0 at KS0 HF0 HT0 z0 ⊢
  refine KS0.out.mono ?_
  rintro e w3 ⟨rfl, R3, T3⟩
  have G4 := World.grownBy_alloc w3 (.cells #[.int .i64 k, .int .i64 5, .int .i64 j] 29) none
  have F4 : Fl w3.heap.size k 5 j (w3.alloc (.cells #[.int .i64 k, .int .i64 5, .int .i64 j] 29)) := blk_at
  have T4 := (HT0.out.trans T3).trans (Tn.gb G4 (by simp))
  have R4 := R3.grown G4
  have L4 := (HF0.out.turned T3 (by simp; omega)).turned (Tn.gb G4 (S := [c, l]) (by simp)) (by simp; omega)
  have z3 := T3.size
  have p0 := F4.c0
  have p1 := F4.c1
  have p2 := F4.c2
  have q0 := L4.c0
  have q1 := L4.c1
  have q2 := L4.c2
  have qf0 := L4.free 0
  have qf1 := L4.free 1
  have qf2 := L4.free 2
  have m0 : ¬ w3.heap.size = W.heap.size := by omega
  have m1 : ¬ W.heap.size = w3.heap.size := by omega
  have hkn : k ≠ 0 := hk
  have HT4 := Lib.hid T4
  have HR4 := Lib.hid R4
  clear G4 F4 T4 R4 L4 T3 R3 z3 z0 HF0 HT0 KS0
  go_wp2_with fail
  generalize w3.alloc (.cells #[.int .i64 k, .int .i64 5, .int .i64 j] 29) = w4 at p0 p1 p2 q0 q1 q2 qf0 qf1 qf2 HT4 HR4 ⊢
  go_region
  go_wp2
  refine bodyPost_ret (v := .tuple #[.pointer none, flF 5 k j]) (by simp only [results, Tryz.results9, flF]; go_simp) rfl ?_
  rw [← HQ.out]
  have t5 : Tn w4 (((w4.setCell ⟨W.heap.size, 0, none⟩ (.int .i64 k)).setCell ⟨W.heap.size, 1, none⟩ (.int .i64 5)).setCell ⟨W.heap.size, 2, none⟩ (.int .i64 j)).drew [W.heap.size] := ((((Tn.refl w4 [W.heap.size]).st (by simp)).st (by simp)).st (by simp)).dr
  refine ⟨q, y, rd_own HR4.out t5 (by simp; omega) (by simp; omega), HT4.out.over t5 (by intro i hi; simp at hi; left; omega), HY.out.1, ?_⟩
  obtain ⟨f0, hk, hj, hy⟩ | ⟨hk, j0, j1, hy, hs⟩ := HY.out.2.2
  · exact .inr (.inl ⟨f0, by rw [hk, hj], hy, HY.out.2.1⟩)
  · exact .inr (.inr ⟨.inr (.inr (.inr hs)), ⟨j.toNat, by omega, by rw [hk, Int.toNat_of_nonneg j0]⟩, hy, HY.out.2.1⟩)

set_option maxRecDepth 100000 in
set_option maxHeartbeats 2000000 in
theorem ddec_good (c l : Nat) (s : ByteArray) (x : St) (gw gh n f p N : Nat) (C : Nat → Nat → Int) (W : World) (R : Rd c l s 0 x W) (hr : x.r = 0) (hN : gw * gh = n) (w1 : 1 ≤ gw) (w2 : gw ≤ 16384) (h1 : 1 ≤ gh) (h2 : gh ≤ 16384) (hsz : 14 ≤ s.size)
    (KS : ∀ u, Rd c l s 0 x u → Calls Tryz.prog 23 #[.pointer (some ⟨c, 0, none⟩)] u (fun e w' => e = .returned (.tuple #[.int .i64 gw, .int .i64 gh, okT]) ∧ Rd c l s 14 (stp x 1) w' ∧ Tn u w' [c, l]))
    (KF : ∀ u r cb g x1, FB u c l r cb g → Rd c l s 14 x1 u → x1.r = 0 → Ro r l cb g gw gh (Bu.rep 0 (4 * n)) u → Calls Tryz.prog 28 #[.pointer (some ⟨c, 0, none⟩), .pointer (some ⟨r, 0, none⟩)] u (FO 5 u c l r cb g gw gh C s x1 f p N n)) :
    Calls Tryz.prog 9 #[.pointer (some ⟨c, 0, none⟩)] W (DT 5 W s c l x f p gw gh (1 + N) (rk C n n)) := by
  obtain ⟨Q, hQ⟩ : ∃ Q, DT 5 W s c l x f p gw gh (1 + N) (rk C n n) = Q := ⟨_, rfl⟩
  rw [hQ]
  have HQ := Lib.hid hQ
  unfold okT at KS
  have g0 := World.grownBy_alloc W (.cells #[.int .i64 0, .int .i64 0, .int .i64 0] 29) none
  have hc := R.clt
  have hl := R.llt
  have KS0 := Lib.hid (KS _ (R.grown g0))
  have KF := Lib.hid KF
  have HF0 := Lib.hid (Fl.new W)
  have HT0 := Lib.hid (show Tn W (W.alloc (.cells #[.int .i64 0, .int .i64 0, .int .i64 0] 29)) [c, l] from Tn.gb g0 (by simp))
  have z0 : (W.alloc (.cells #[.int .i64 0, .int .i64 0, .int .i64 0] 29)).heap.size = W.heap.size + 1 := size_alloc _ _
  have HW := Lib.hid (And.intro hr (And.intro hN (And.intro hsz R.ok.y0)))
  have hxr : (stp x 1).r = 0 := hr
  have hcl : c ≠ l := R.so.bl
  clear R KS g0 hQ hr hsz
  go_enter Tryz.func9, Tryz.ntmps9
  go_wp2_with fail
  generalize W.alloc (.cells #[.int .i64 0, .int .i64 0, .int .i64 0] 29) = w0 at KS0 HF0 HT0 z0 ⊢
  refine KS0.out.mono ?_
  rintro e w3 ⟨rfl, R3, T3⟩
  have G4 := World.grownBy_alloc w3 (.cells #[.int .i64 0, .int .i64 0, .int .i64 0] 29) none
  have F4 : Fl w3.heap.size 0 0 0 (w3.alloc (.cells #[.int .i64 0, .int .i64 0, .int .i64 0] 29)) := blk_at
  have T4 := (HT0.out.trans T3).trans (Tn.gb G4 (by simp))
  have R4 := R3.grown G4
  have L4 := (HF0.out.turned T3 (by simp; omega)).turned (Tn.gb G4 (S := [c, l]) (by simp)) (by simp; omega)
  have z3 := T3.size
  have z4 : (w3.alloc (.cells #[.int .i64 0, .int .i64 0, .int .i64 0] 29)).heap.size = w3.heap.size + 1 := size_alloc _ _
  have hw3 : W.heap.size + 1 ≤ w3.heap.size := by omega
  have p0 := F4.c0
  have p1 := F4.c1
  have p2 := F4.c2
  have HT4 := Lib.hid T4
  have HR4 := Lib.hid R4
  have HL4 := Lib.hid L4
  have HF4 := Lib.hid F4
  clear G4 F4 T4 R4 L4 T3 R3 z3 z0 HF0 HT0 KS0
  go_wp2_with fail
  generalize w3.alloc (.cells #[.int .i64 0, .int .i64 0, .int .i64 0] 29) = w4 at p0 p1 p2 HT4 HR4 HL4 HF4 z4 ⊢
  obtain ⟨hd, hhd⟩ : ∃ q, w3.heap.size = q := ⟨_, rfl⟩
  rw [hhd] at p0 p1 p2 HF4 z4 hw3 ⊢
  clear hhd
  have KL := Lib.hid (ledger_rd c l s 14 (stp x 1) w4 HR4.out)
  refine KL.out.mono ?_
  rintro e w' ⟨rfl, rfl⟩
  clear KL
  by_cases hno : (stp x 1).w < gw ∨ (stp x 1).h < gh ∨ (stp x 1).b < (stp x 1).by_ + ((4 * (gw * gh) : Nat) : Int)
  · have KN := Lib.hid (new_nod l (stp x 1) gw gh w4 HR4.out.led HR4.out.ok hxr w1 w2 h1 h2 hno)
    have HNO := Lib.hid hno
    clear hno hxr
    go_wp2_with fail
    refine KN.out.mono ?_
    rintro e w5 ⟨rfl, y, L5, ok5, lim5, hy5, by5, g5⟩
    have t5 : Tn w4 w5 [c, l] := Tn.gb g5 (by simp)
    have R5 : Rd c l s 14 y w5 := ⟨HR4.out.so.turned (Tn.gb g5 (S := [l]) (by simp)) (by simpa using HR4.out.so.bl), L5, ok5⟩
    have L9 := HL4.out.turned t5 (by simp; omega)
    have HL5 := Lib.hid L9
    have HT5 := Lib.hid (HT4.out.trans t5)
    have HR5 := Lib.hid R5
    have HY := Lib.hid (And.intro hy5 (And.intro by5 lim5))
    clear p0 p1 p2 t5 L5 g5 R5 L9 hy5 by5 lim5 ok5 KN HF4 HL4 HT4 HR4
    go_wp2_with fail
    have KA := Lib.hid (at_rd c l s 14 y w5 HR5.out)
    refine KA.out.mono ?_
    rintro e w' ⟨rfl, rfl⟩
    go_wp2_with fail
    have KP := Lib.hid (qfault_calls 4 14 w5)
    refine KP.out.mono ?_
    rintro e w6 ⟨rfl, g6⟩
    have L9 := HL5.out.turned (Tn.gb g6 (S := []) (by simp)) (by simp)
    unfold flF
    have q0 := L9.c0
    have q1 := L9.c1
    have q2 := L9.c2
    have qf0 := L9.free 0
    have qf1 := L9.free 1
    have qf2 := L9.free 2
    have HR6 := Lib.hid (HR5.out.grown g6)
    have HT6 := Lib.hid (HT5.out.trans (Tn.gb g6 (by simp)))
    clear L9 g6 HR5 HT5 HL5
    go_wp2_with fail
    refine bodyPost_ret (v := .tuple #[.pointer none, flF 5 4 14]) (by simp only [results, Tryz.results9, flF]; go_simp) rfl ?_
    rw [← HQ.out]
    have t6 : Tn w6 (((w6.setCell ⟨W.heap.size, 0, none⟩ (.int .i64 4)).setCell ⟨W.heap.size, 1, none⟩ (.int .i64 5)).setCell ⟨W.heap.size, 2, none⟩ (.int .i64 14)) [W.heap.size] := (((Tn.refl w6 [W.heap.size]).st (by simp)).st (by simp)).st (by simp)
    refine ⟨14, y, rd_own HR6.out t6 (by simp; omega) (by simp; omega), HT6.out.over t6 (by intro i hi; simp at hi; left; omega), (lm_stp x 1).trans HY.out.2.2, .inr (.inr ⟨?_, ⟨14, HW.out.2.2.1, rfl⟩, HY.out.1, HY.out.2.1⟩)⟩
    rcases HNO.out with h1 | h1 | h1
    · exact .inl h1
    · exact .inr (.inl h1)
    · exact .inr (.inr (.inl h1))
  · have hsd : (stp x 1).sides gw gh = (stp x 1, true) := sides_okd hxr (by omega) (by omega) (by omega) (by omega)
    have hbb : (stp x 1).by_ + ((4 * (gw * gh) : Nat) : Int) ≤ (stp x 1).b := by omega
    have hlm : (gw : Int) ≤ x.w ∧ (gh : Int) ≤ x.h := by
      have e1 : (stp x 1).w = x.w := rfl
      have e2 : (stp x 1).h = x.h := rfl
      rw [e1, e2] at hno
      omega
    have htk := take_ok hxr (4 * (gw * gh)) hbb
    have hok := HR4.out.ok.take ((4 * (gw * gh) : Nat) : Int)
    rw [htk] at hok
    obtain ⟨x1, hx1⟩ : ∃ x1, tkn (stp x 1) (4 * (gw * gh)) = x1 := ⟨_, rfl⟩
    have KN := Ra.new_yes l (stp x 1) gw gh w4 HR4.out.led HR4.out.ok w1 w2 h1 h2 hsd (by rw [htk])
    rw [htk, hx1, HW.out.2.1] at KN
    rw [hx1] at hok
    have f1 : x1.r = 0 ∧ x1.s = x.s ∧ x1.st = x.st + ((1 : Nat) : Int) ∧ x1.by_ = x.by_ + ((4 * n : Nat) : Int) ∧ x1.b = x.b ∧ Lm x x1 := by
      rw [← hx1, ← HW.out.2.1]
      exact ⟨hxr, rfl, rfl, rfl, rfl, ⟨rfl, rfl, rfl, rfl⟩⟩
    have H1 := Lib.hid f1
    have HLM := Lib.hid hlm
    have HOK := Lib.hid hok
    have HKN := Lib.hid KN
    clear hsd hbb htk hok KN f1 hlm hno hxr hx1
    go_wp2_with fail
    refine HKN.out.mono ?_
    rintro e w5 ⟨r, cb, g, rfl, O5, L5, g5, hr5, hcb5, hg5⟩
    have t5l : Tn w4 w5 [l] := Tn.gb g5 (by simp)
    have R5 : Rd c l s 14 x1 w5 := ⟨HR4.out.so.turned t5l (by simpa using HR4.out.so.bl), L5, HOK.out⟩
    have L9 := HL4.out.turned t5l (by simp; omega)
    have F9 := HF4.out.turned t5l (by simp; omega)
    have T5 := HT4.out.trans (t5l.mono (by intro i hi; simp at hi ⊢; omega) : Tn w4 w5 [c, l])
    have rlt := O5.lt
    have clt := O5.buf.lt
    have glt := O5.buf.glt
    have hbg := O5.buf.bg
    have hrg := O5.rg
    have hrc := O5.rc
    have z5 := t5l.size
    have BB : FB w5 c l r cb g := ⟨by omega, by omega, rlt, clt, glt, hcl, by omega, by omega, by omega, by omega, by omega, by omega, hrc, hrg, hbg⟩
    have HK0 := Lib.hid (KF.out w5 r cb g x1 BB R5 H1.out.1 O5)
    clear p0 p1 p2
    have HT5 := Lib.hid T5
    have HL5 := Lib.hid L9
    have HF5 := Lib.hid F9
    have HS5 := Lib.hid (And.intro hr5 (And.intro hcb5 (And.intro hg5 (And.intro glt z5))))
    have p0 := F9.c0
    have p1 := F9.c1
    have p2 := F9.c2
    have pf0 := F9.free 0
    have pf1 := F9.free 1
    have pf2 := F9.free 2
    have hly := F9.lt
    clear R5 L9 F9 T5 rlt clt glt hbg hrg hrc z5 BB O5 L5 g5 hr5 hcb5 hg5 t5l HF4 HL4 HT4 HR4 HKN KF
    go_wp2_with fail
    refine HK0.out.mono ?_
    rintro e w6 h6
    obtain ⟨q, y, R6, T6, lm6, by6, ⟨RA, O6⟩, hh⟩ := h6
    have zz := HS5.out
    have L6 := HL5.out.turned T6 (by simp; omega)
    have F6 := HF5.out.turned T6 (by simp; omega)
    clear p0 p1 p2 pf0 pf1 pf2 hly
    have q0 := L6.c0
    have q1 := L6.c1
    have q2 := L6.c2
    have qf0 := L6.free 0
    have qf1 := L6.free 1
    have qf2 := L6.free 2
    have p0 := F6.c0
    have p1 := F6.c1
    have p2 := F6.c2
    have pf0 := F6.free 0
    have pf1 := F6.free 1
    have pf2 := F6.free 2
    have hly := F6.lt
    have hlx := L6.lt
    have m0 : ¬ hd = W.heap.size := by omega
    have m1 : ¬ W.heap.size = hd := by omega
    have HT6 := Lib.hid (HT5.out.over T6 (by intro i hi; simp at hi ⊢; omega))
    have HR6 := Lib.hid (And.intro R6 (And.intro lm6 by6))
    have HO6 := Lib.hid O6
    have HL6 := Lib.hid L6
    have HF6 := Lib.hid F6
    have z6 := T6.size
    clear R6 T6 lm6 by6 O6 L6 F6 HK0 HT5
    have hb : (f = 0 ∧ e = .returned okT ∧ y.r = 0 ∧ Ro r l cb g gw gh (rk C n n) w6) ∨ (∃ k j : Int, e = .returned (flF 5 k j) ∧ k ≠ 0 ∧ ((f ≠ 0 ∧ k = f ∧ j = p ∧ y.r = 0) ∨ (k = 4 ∧ 0 ≤ j ∧ j ≤ s.size ∧ y.r ≠ 0 ∧ x1.s < x1.st + (N : Int)))) := by
      rcases hh with h | ⟨h1, h2, h3⟩ | ⟨h1, ⟨j, h2, h3⟩, h4⟩
      · exact .inl h
      · exact .inr ⟨f, p, h2, by omega, .inl ⟨h1, rfl, rfl, h3⟩⟩
      · exact .inr ⟨4, j, h3, by decide, .inr ⟨rfl, by omega, by omega, h4, h1⟩⟩
    clear hh
    rcases hb with ⟨f0, rfl, yr, OF⟩ | ⟨k, j, rfl, hkn, hcs⟩
    · have HY := Lib.hid (And.intro f0 (And.intro yr OF))
      clear f0 yr OF
      unfold okT
      go_wp2_with fail
      refine bodyPost_ret (v := .tuple #[.pointer (some ⟨r, 0, none⟩), okT]) (by simp only [results, Tryz.results9, okT]; go_simp) rfl ?_
      rw [← HQ.out]
      have TB : Tn w6 ((((((w6.setCell ⟨hd, 0, none⟩ (.int .i64 0)).setCell ⟨hd, 1, none⟩ (.int .i64 0)).setCell ⟨hd, 2, none⟩ (.int .i64 0)).setCell ⟨W.heap.size, 0, none⟩ (.int .i64 0)).setCell ⟨W.heap.size, 1, none⟩ (.int .i64 0)).setCell ⟨W.heap.size, 2, none⟩ (.int .i64 0)) [hd, W.heap.size] := ((((((Tn.refl _ _).st (by simp)).st (by simp)).st (by simp)).st (by simp)).st (by simp)).st (by simp)
      refine ⟨q, y, rd_own HR6.out.1 TB (by simp; omega) (by simp; omega), HT6.out.over TB (by intro i hi; simp at hi; left; omega), H1.out.2.2.2.2.2.trans HR6.out.2.1, .inl ⟨HY.out.1, ⟨r, cb, g, rfl, ro_t HY.out.2.2 TB (by simp; omega) (by simp; omega) (by simp; omega), by omega, by omega, by omega⟩, ?_, HY.out.2.1, HLM.out.1, HLM.out.2⟩⟩
      rw [HR6.out.2.2, H1.out.2.2.2.1, HW.out.2.1]
    · have HC := Lib.hid hcs
      clear hcs
      unfold flF
      go_wp2_with fail
      have TT : Tn w6 (((w6.setCell ⟨hd, 0, none⟩ (.int .i64 k)).setCell ⟨hd, 1, none⟩ (.int .i64 5)).setCell ⟨hd, 2, none⟩ (.int .i64 j)) [hd] := (((Tn.refl _ _).st (by simp)).st (by simp)).st (by simp)
      have HR7 := Lib.hid (rd_own HR6.out.1 TT (by simp; omega) (by simp; omega))
      have HO7 := Lib.hid (ro_t HO6.out TT (by simp; omega) (by simp; omega) (by simp; omega))
      have HT7 := Lib.hid (HT6.out.over TT (by intro i hi; simp at hi; left; omega))
      have HL7 := Lib.hid (HL6.out.turned TT (by simp; omega))
      have HF7 := Lib.hid (HF6.out.set k 5 j)
      have z7 := TT.size
      clear TT p0 p1 p2 pf0 pf1 pf2 q0 q1 q2 qf0 qf1 qf2 HO6 HT6 HL6 HF6 hlx hly
      generalize (((w6.setCell ⟨hd, 0, none⟩ (.int .i64 k)).setCell ⟨hd, 1, none⟩ (.int .i64 5)).setCell ⟨hd, 2, none⟩ (.int .i64 j)) = w7 at HR7 HO7 HT7 HL7 HF7 z7 ⊢
      refine (rfree_yes r l cb g gw gh RA y w7 HO7.out HR7.out.led HR7.out.ok).mono ?_
      rintro e w8 ⟨rfl, L8, T8⟩
      have L9 := HL7.out.turned T8 (by simp; omega)
      have F9 := HF7.out.turned T8 (by simp; omega)
      have q0 := L9.c0
      have q1 := L9.c1
      have q2 := L9.c2
      have qf0 := L9.free 0
      have qf1 := L9.free 1
      have qf2 := L9.free 2
      have p0 := F9.c0
      have p1 := F9.c1
      have p2 := F9.c2
      have pf0 := F9.free 0
      have pf1 := F9.free 1
      have pf2 := F9.free 2
      have hlx := L9.lt
      have hly := F9.lt
      have hsz : RA.size = 4 * n := by rw [← HW.out.2.1]; exact HO7.out.sz
      rw [hsz] at L8
      have okg := HR7.out.ok.give ((4 * n : Nat) : Int)
      have HR8 := Lib.hid (show Rd c l s q (y.give ((4 * n : Nat) : Int)).1 w8 from ⟨HR7.out.so.turned T8 (by have := HR7.out.so.bl; simp; omega), L8, okg⟩)
      have HT8 := Lib.hid (HT7.out.over T8 (by intro i hi; simp at hi ⊢; omega))
      clear L9 F9 L8 T8 HR7 HO7 HT7 HL7 HF7 hsz okg
      go_wp2_with fail
      go_region
      go_wp2
      refine bodyPost_ret (v := .tuple #[.pointer none, flF 5 k j]) (by simp only [results, Tryz.results9, flF]; go_simp) rfl ?_
      rw [← HQ.out]
      have t9 : Tn w8 (((w8.setCell ⟨W.heap.size, 0, none⟩ (.int .i64 k)).setCell ⟨W.heap.size, 1, none⟩ (.int .i64 5)).setCell ⟨W.heap.size, 2, none⟩ (.int .i64 j)).drew [W.heap.size] := ((((Tn.refl w8 [W.heap.size]).st (by simp)).st (by simp)).st (by simp)).dr
      have e8 := give_d (z := y) (n := 4 * n) H1.out.2.2.2.2.2 H1.out.2.2.2.1 HW.out.2.2.2 HR6.out.2.1 HR6.out.2.2
      refine ⟨q, _, rd_own HR8.out t9 (by simp; omega) (by simp; omega), HT8.out.over t9 (by intro i hi; simp at hi; left; omega), e8.1, .inr ?_⟩
      rcases HC.out with ⟨c1, c2, c3, c4⟩ | ⟨c1, c2, c3, c4, c5⟩
      · exact .inl ⟨c1, by rw [c2, c3], by rw [e8.2.2]; exact c4, e8.2.1⟩
      · refine .inr ⟨?_, ⟨j.toNat, by omega, by rw [c1, Int.toNat_of_nonneg c2]⟩, by rw [e8.2.2]; exact c4, e8.2.1⟩
        have g1 := H1.out
        exact .inr (.inr (.inr (by omega)))

end Go.Proofs.YtmhghkgcfgacdaaGreat.Qo
