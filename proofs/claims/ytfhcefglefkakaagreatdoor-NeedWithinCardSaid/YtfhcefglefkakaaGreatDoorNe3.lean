/- Layer 31: a PNM file's head as a plan. -/
import Derived.Test.YtfhcefglefkakaaGreatDoorNe2b
import Derived.Test.YtfhcefglefkakaaGreatDoorNe2c
import Derived.Deep.RegionHeld3
namespace Go.Proofs.YtfhcefglefkakaaGreatDoor.Ne
open Go.ChangeShapes Go.WideShapes Go.ChangeAt Go.RowKit
open Go.Proofs.YtfhcefglefkakaaGreatDoor.Le Go.Proofs.YtfhcefglefkakaaGreatDoor.Tk Go.Proofs.YtfhcefglefkakaaGreatDoor.Sr Go.Proofs.YtfhcefglefkakaaGreatDoor.Ph
set_option linter.unusedVariables false

/-- The chapter's example. -/
def exN : ByteArray := ⟨#[80, 53, 32, 50, 32, 51, 32, 50, 53, 53, 10, 97, 98, 99, 100, 101, 102]⟩
theorem ex_read : readV exN = ⟨5, 2, 3, 255, 11, 0, 0⟩ := by kernel_rfl
theorem ex_rdT : rdT (readV exN) = .tuple #[.agg #[.int .i64 5, .int .i64 2, .int .i64 3, .int .i64 255, .int .i64 11], .agg #[.int .i64 0, .int .i64 0, .int .i64 0]] := by rw [ex_read]; rfl

set_option maxRecDepth 100000 in
set_option maxHeartbeats 4000000 in
theorem pnm_calls (c l : Nat) (x : St) (W : World) (R : Rd c l exN 0 x W) (hr : x.r = 0) (hx : x.st + 100 ≤ x.s) : Calls Tryz.prog 21 #[.pointer (some ⟨c, 0, none⟩)] W fun e w' => e = .returned (.tuple #[planV 0 2 3 8 0 0, .agg #[.int .i64 0, .int .i64 0, .int .i64 0]]) ∧ Tn W w' [c, l] := by
  have hP : ((W.alloc (.cells #[.int .i64 0, .int .i64 0, .int .i64 0, .int .i64 0, .int .i64 0, .int .i64 0] 23)).alloc (.cells #[.int .i64 0, .int .i64 0, .int .i64 0] 36)).heap[W.heap.size]? = some (.cells #[.int .i64 0, .int .i64 0, .int .i64 0, .int .i64 0, .int .i64 0, .int .i64 0] 23 (0, 0)) := blk_al blk_at _
  have hF : ((W.alloc (.cells #[.int .i64 0, .int .i64 0, .int .i64 0, .int .i64 0, .int .i64 0, .int .i64 0] 23)).alloc (.cells #[.int .i64 0, .int .i64 0, .int .i64 0] 36)).heap[W.heap.size + 1]? = some (.cells #[.int .i64 0, .int .i64 0, .int .i64 0] 36 (0, 0)) := by
    rw [← size_alloc W (.cells #[.int .i64 0, .int .i64 0, .int .i64 0, .int .i64 0, .int .i64 0, .int .i64 0] 23)]
    exact blk_at
  have g0 := gb_trans (World.grownBy_alloc W (.cells #[.int .i64 0, .int .i64 0, .int .i64 0, .int .i64 0, .int .i64 0, .int .i64 0] 23) none) (World.grownBy_alloc _ (.cells #[.int .i64 0, .int .i64 0, .int .i64 0] 36) none)
  have KR := Lib.hid (read_calls c l exN x _ (R.grown g0) hr)
  have HG := Lib.hid g0
  have HN := Lib.hid (readN_le exN)
  have HX := Lib.hid hx
  have hc := R.clt
  have hl := R.llt
  have KS := Lib.hid (fun u => smp_calls u)
  have KC := Lib.hid (fun u => col5_calls u)
  clear R hr hx g0
  go_enter Tryz.func21, Tryz.ntmps21
  go_wp2_with fail
  generalize (W.alloc (.cells #[.int .i64 0, .int .i64 0, .int .i64 0, .int .i64 0, .int .i64 0, .int .i64 0] 23)).alloc (.cells #[.int .i64 0, .int .i64 0, .int .i64 0] 36) = w0 at KR HG hP hF ⊢
  refine KR.out.mono ?_
  rintro e w1 ⟨q, hq, T1, hh⟩
  have he : e = .returned (.tuple #[.agg #[.int .i64 5, .int .i64 2, .int .i64 3, .int .i64 255, .int .i64 11], .agg #[.int .i64 0, .int .i64 0, .int .i64 0]]) := by
    rcases hh with ⟨he, _, _⟩ | ⟨h1, _, _⟩
    · rw [he, ex_rdT]
    · exfalso
      have h2 := HN.out
      have h3 := HX.out
      have h4 : exN.size = 17 := rfl
      omega
  subst he
  have P1 := (T1.block _ (blk_lt hP) (by simp; omega)).trans hP
  have F1 := (T1.block _ (blk_lt hF) (by simp; omega)).trans hF
  have HT1 := Lib.hid ((Tn.gb HG.out (S := [c, l]) (by simp)).trans T1)
  have z1 := blk_lt F1
  have HP1 := Lib.hid P1
  have HF1 := Lib.hid F1
  clear hP hF T1 hh KR P1 F1 hq
  have h2 : ((w1.alloc (.cells #[.int .i64 5, .int .i64 2, .int .i64 3, .int .i64 255, .int .i64 11] 93)).alloc (.cells #[.int .i64 0, .int .i64 0, .int .i64 0] 36)).heap[w1.heap.size]? = some (.cells #[.int .i64 5, .int .i64 2, .int .i64 3, .int .i64 255, .int .i64 11] 93 (0, 0)) := blk_al blk_at _
  have f2 : ((w1.alloc (.cells #[.int .i64 5, .int .i64 2, .int .i64 3, .int .i64 255, .int .i64 11] 93)).alloc (.cells #[.int .i64 0, .int .i64 0, .int .i64 0] 36)).heap[w1.heap.size + 1]? = some (.cells #[.int .i64 0, .int .i64 0, .int .i64 0] 36 (0, 0)) := by
    rw [← size_alloc w1 (.cells #[.int .i64 5, .int .i64 2, .int .i64 3, .int .i64 255, .int .i64 11] 93)]
    exact blk_at
  have g2 := gb_trans (World.grownBy_alloc w1 (.cells #[.int .i64 5, .int .i64 2, .int .i64 3, .int .i64 255, .int .i64 11] 93) none) (World.grownBy_alloc _ (.cells #[.int .i64 0, .int .i64 0, .int .i64 0] 36) none)
  go_wp2_with fail
  generalize (w1.alloc (.cells #[.int .i64 5, .int .i64 2, .int .i64 3, .int .i64 255, .int .i64 11] 93)).alloc (.cells #[.int .i64 0, .int .i64 0, .int .i64 0] 36) = w2 at h2 f2 g2 ⊢
  have k0 := blk_cell h2 0
  have k1 := blk_cell h2 1
  have k2 := blk_cell h2 2
  have k3 := blk_cell h2 3
  simp only [List.getElem?_toArray, List.getElem?_cons_succ, List.getElem?_cons_zero] at k0 k1 k2 k3
  have hz2 := blk_lt f2
  have HT2 := Lib.hid (HT1.out.trans (Tn.gb g2 (by simp)))
  have HP2 := Lib.hid ((g2.block _ (blk_lt HP1.out) (by simp)).trans HP1.out)
  have HF2 := Lib.hid ((g2.block _ (blk_lt HF1.out) (by simp)).trans HF1.out)
  have HH2 := Lib.hid h2
  have HE2 := Lib.hid f2
  clear h2 f2 g2 HT1 HP1 HF1
  obtain ⟨hb, hhb⟩ : ∃ hb, w1.heap.size = hb := ⟨_, rfl⟩
  rw [hhb] at k0 k1 k2 k3 hz2 HH2 HE2 z1 ⊢
  clear hhb
  go_region_held3 (fun w' => w'.cell? ⟨hb, 1, none⟩ = some (.int .i64 2) ∧ w'.cell? ⟨hb, 2, none⟩ = some (.int .i64 3) ∧ w'.cell? ⟨hb, 3, none⟩ = some (.int .i64 255)) (go_keep)
    (first
      | (go_at_call 34; refine (KS.out _).mono ?_; rintro e w' ⟨rfl, rfl⟩))
  all_goals
    have p3 : ((w2.alloc (.cells #[.int .i64 0, .int .i64 2, .int .i64 3, .int .i64 8, .int .i64 0, .int .i64 0] 23)).drew).heap[w2.heap.size]? = some (.cells #[.int .i64 0, .int .i64 2, .int .i64 3, .int .i64 8, .int .i64 0, .int .i64 0] 23 (0, 0)) := blk_at
    have g3 : w2.grownBy ((w2.alloc (.cells #[.int .i64 0, .int .i64 2, .int .i64 3, .int .i64 8, .int .i64 0, .int .i64 0] 23)).drew) none := gb_trans (World.grownBy_alloc w2 (.cells #[.int .i64 0, .int .i64 2, .int .i64 3, .int .i64 8, .int .i64 0, .int .i64 0] 23) none) (gb_drew _ _)
    generalize (w2.alloc (.cells #[.int .i64 0, .int .i64 2, .int .i64 3, .int .i64 8, .int .i64 0, .int .i64 0] 23)).drew = w3 at p3 g3 ⊢
    have H3 := (g3.block _ (blk_lt HH2.out) (by simp)).trans HH2.out
    have E3 := (g3.block _ (blk_lt HE2.out) (by simp)).trans HE2.out
    have P3 := (g3.block _ (blk_lt HP2.out) (by simp)).trans HP2.out
    have F3 := (g3.block _ (blk_lt HF2.out) (by simp)).trans HF2.out
    have HT3 := Lib.hid (HT2.out.trans (Tn.gb g3 (by simp)))
    have hz3 := blk_lt p3
    obtain ⟨pb, hpb⟩ : ∃ pb, w2.heap.size = pb := ⟨_, rfl⟩
    rw [hpb] at p3 hz3 hz2 ⊢
    clear hpb g3 k0 k1 k2 k3
    have k0 := blk_cell H3 0
    have e0 := blk_cell E3 0
    have e1 := blk_cell E3 1
    have e2 := blk_cell E3 2
    have q0 := blk_cell p3 0
    have q1 := blk_cell p3 1
    have q2 := blk_cell p3 2
    have q3 := blk_cell p3 3
    have q4 := blk_cell p3 4
    have q5 := blk_cell p3 5
    have r0 := blk_cell P3 0
    have r1 := blk_cell P3 1
    have r2 := blk_cell P3 2
    have r3 := blk_cell P3 3
    have r4 := blk_cell P3 4
    have r5 := blk_cell P3 5
    have t0 := blk_cell F3 0
    have t1 := blk_cell F3 1
    have t2 := blk_cell F3 2
    simp only [List.getElem?_toArray, List.getElem?_cons_succ, List.getElem?_cons_zero] at k0 e0 e1 e2 q0 q1 q2 q3 q4 q5 r0 r1 r2 r3 r4 r5 t0 t1 t2
    have x0 := blk_free P3 0
    have x1 := blk_free P3 1
    have x2 := blk_free P3 2
    have x3 := blk_free P3 3
    have x4 := blk_free P3 4
    have x5 := blk_free P3 5
    have y0 := blk_free F3 0
    have y1 := blk_free F3 1
    have y2 := blk_free F3 2
    have m1 : ¬ pb = W.heap.size := by omega
    have m2 : ¬ W.heap.size = pb := by omega
    have m3 : ¬ pb = W.heap.size + 1 := by omega
    have m4 : ¬ W.heap.size + 1 = pb := by omega
    have m5 : ¬ hb + 1 = W.heap.size := by omega
    have m6 : ¬ W.heap.size = hb + 1 := by omega
    have m7 : ¬ hb + 1 = W.heap.size + 1 := by omega
    have m8 : ¬ W.heap.size + 1 = hb + 1 := by omega
    clear H3 E3 P3 F3 p3
    go_wp2_with fail
    refine (KC.out _).mono ?_
    rintro e w' ⟨rfl, rfl⟩
    go_wp2_with fail
    go_region
    go_wp2
    refine bodyPost_ret (v := .tuple #[planV 0 2 3 8 0 0, .agg #[.int .i64 0, .int .i64 0, .int .i64 0]]) (by simp only [results, Tryz.results21, planV]; go_simp) rfl ⟨rfl, ?_⟩
    refine Tn.over HT3.out (R := [W.heap.size, W.heap.size + 1]) ?_ (by intro i hi; simp at hi; left; omega)
    repeat' (first | with_reducible exact Tn.refl _ _ | with_reducible refine Tn.dr ?_ | with_reducible refine Tn.st ?_ (by simp))

end Go.Proofs.YtfhcefglefkakaaGreatDoor.Ne
