/- Texts of one kind, one behind the other: Qw3, Qw4. -/
import Derived.Deep.Cut
import Derived.Deep.RegionHeld3
import Derived.Test.YtmhghkgcfgacdaaGreatG24
/- Layer 26: what is known behind a step is kept. -/
namespace Go.Proofs.YtmhghkgcfgacdaaGreat.Qw
open Go.ChangeShapes Go.WideShapes Go.ChangeAt Go.RowKit Go.Proofs.YtmhghkgcfgacdaaGreat.Le
set_option linter.unusedVariables false

/-- Four cells from o on. -/
def st4 (C : Array Value) (o r g bl a : Nat) : Array Value := (((C.setIfInBounds o (.int .u8 r)).setIfInBounds (o + 1) (.int .u8 g)).setIfInBounds (o + 2) (.int .u8 bl)).setIfInBounds (o + 3) (.int .u8 a)
theorem st4_size (C : Array Value) (o r g bl a : Nat) : (st4 C o r g bl a).size = C.size := by simp [st4]
/-- The memory's cells behind a pixel. -/
def kpC (C : Array Value) (r g bl a : Nat) : Array Value := st4 (st4 C 0 r g bl a) (4 + 4 * plQ r g bl a) r g bl a
theorem kpC_size (C : Array Value) (r g bl a : Nat) : (kpC C r g bl a).size = C.size := by simp [kpC, st4_size]
theorem blk_st4 {w : World} {b : Nat} {C : Array Value} {E : TypeId} (h : w.heap[b]? = some (.cells C E (0, 0))) (o r g bl a : Nat) :
    ((((w.setCell ⟨b, o, none⟩ (.int .u8 r)).setCell ⟨b, o + 1, none⟩ (.int .u8 g)).setCell ⟨b, o + 2, none⟩ (.int .u8 bl)).setCell ⟨b, o + 3, none⟩ (.int .u8 a)).heap[b]? = some (.cells (st4 C o r g bl a) E (0, 0)) :=
  blk_set (blk_set (blk_set (blk_set h o _) (o + 1) _) (o + 2) _) (o + 3) _
theorem gb_st4 (w : World) (b o r g bl a : Nat) : w.grownBy ((((w.setCell ⟨b, o, none⟩ (.int .u8 r)).setCell ⟨b, o + 1, none⟩ (.int .u8 g)).setCell ⟨b, o + 2, none⟩ (.int .u8 bl)).setCell ⟨b, o + 3, none⟩ (.int .u8 a)) (some b) :=
  gb_trans (gb_trans (gb_trans (gb_set w b o _) (gb_set _ b (o + 1) _)) (gb_set _ b (o + 2) _)) (gb_set _ b (o + 3) _)
theorem cell_in {w : World} {b : Nat} {C : Array Value} {E : TypeId} (h : w.heap[b]? = some (.cells C E (0, 0))) (j : Nat) (hj : j < C.size) : ∃ x, w.cell? ⟨b, j, none⟩ = some x := ⟨C[j], by rw [blk_cell h j]; simp [hj]⟩

set_option maxRecDepth 100000 in
set_option maxHeartbeats 1000000 in
theorem keep_calls (E : TypeId) (C : Array Value) (b r g bl a : Nat) (w : World) (hC : 260 ≤ C.size) (h : w.heap[b]? = some (.cells C E (0, 0))) (hr : r < 256) (hg : g < 256) (hb : bl < 256) (ha : a < 256) :
    Calls Tryz.prog 60 #[.pointer (some ⟨b, 0, none⟩), cQ r g bl a] w fun e w' => e = .returned (.tuple #[]) ∧ w'.heap[b]? = some (.cells (kpC C r g bl a) E (0, 0)) ∧ w.grownBy w' (some b) := by
  have KP := Lib.hid (fun u => place_calls r g bl a hr hg hb ha u)
  unfold kpC
  obtain ⟨p, hp⟩ : ∃ p, plQ r g bl a = p := ⟨_, rfl⟩
  have hp64 : p < 64 := hp ▸ plQ_lt r g bl a
  rw [hp] at KP ⊢
  have HP := Lib.hid hp64
  have HC := Lib.hid hC
  unfold cQ at KP ⊢
  have HB := Lib.hid (blk_al h (.cells #[.int .u8 r, .int .u8 g, .int .u8 bl, .int .u8 a] 67))
  have HX := Lib.hid (blk_at (w := w) (o := .cells #[.int .u8 r, .int .u8 g, .int .u8 bl, .int .u8 a] 67))
  have HG := Lib.hid (World.grownBy_alloc w (.cells #[.int .u8 r, .int .u8 g, .int .u8 bl, .int .u8 a] 67) (some b))
  have hlt : b < w.heap.size := blk_lt h
  obtain ⟨i0, hi0⟩ : ∃ i, w.heap.size = i := ⟨_, rfl⟩
  clear h hr hg hb ha hC hp hp64
  go_enter Tryz.func60, Tryz.ntmps60
  go_upto_region 1 with fail
  generalize w.alloc (.cells #[.int .u8 r, .int .u8 g, .int .u8 bl, .int .u8 a] 67) = w0 at HB HX HG ⊢
  rw [hi0] at HX hlt
  have x0 := blk_cell HX.out 0
  have x1 := blk_cell HX.out 1
  have x2 := blk_cell HX.out 2
  have x3 := blk_cell HX.out 3
  simp only [List.getElem?_toArray, List.getElem?_cons_succ, List.getElem?_cons_zero] at x0 x1 x2 x3
  obtain ⟨y0, c0⟩ := cell_in HB.out 0 (by have := HC.out; omega)
  obtain ⟨y1, c1⟩ := cell_in HB.out 1 (by have := HC.out; omega)
  obtain ⟨y2, c2⟩ := cell_in HB.out 2 (by have := HC.out; omega)
  obtain ⟨y3, c3⟩ := cell_in HB.out 3 (by have := HC.out; omega)
  have f0 := blk_free HB.out 0
  have f1 := blk_free HB.out 1
  have f2 := blk_free HB.out 2
  have f3 := blk_free HB.out 3
  go_upto_region 2 with fail
  have HB1 := Lib.hid (blk_st4 HB.out 0 r g bl a)
  have HG1 := Lib.hid (gb_trans HG.out (gb_st4 w0 b 0 r g bl a))
  have HX1 := Lib.hid (((gb_st4 w0 b 0 r g bl a).block i0 (blk_lt HX.out) (by simp; omega)).trans HX.out)
  simp only [Nat.zero_add] at HB1 HG1 HX1
  generalize (((w0.setCell ⟨b, 0, none⟩ (.int .u8 r)).setCell ⟨b, 1, none⟩ (.int .u8 g)).setCell ⟨b, 2, none⟩ (.int .u8 bl)).setCell ⟨b, 3, none⟩ (.int .u8 a) = w1 at HB1 HG1 HX1 ⊢
  clear HB HG HX x0 x1 x2 x3 c0 c1 c2 c3 f0 f1 f2 f3
  have x0 := blk_cell HX1.out 0
  have x1 := blk_cell HX1.out 1
  have x2 := blk_cell HX1.out 2
  have x3 := blk_cell HX1.out 3
  simp only [List.getElem?_toArray, List.getElem?_cons_succ, List.getElem?_cons_zero] at x0 x1 x2 x3
  obtain ⟨q, hq⟩ : ∃ q, 4 + 4 * p = q := ⟨_, rfl⟩
  have HQ := Lib.hid hq
  obtain ⟨C1, hC1⟩ : ∃ C1, st4 C 0 r g bl a = C1 := ⟨_, rfl⟩
  rw [hC1] at HB1
  have HCE := Lib.hid hC1
  have HC1 := Lib.hid (show 260 ≤ C1.size by rw [← hC1, st4_size]; exact HC.out)
  clear hq hC1
  obtain ⟨y0, c0⟩ := cell_in HB1.out q (by have := HC1.out; have := HQ.out; have := HP.out; omega)
  obtain ⟨y1, c1⟩ := cell_in HB1.out (q + 1) (by have := HC1.out; have := HQ.out; have := HP.out; omega)
  obtain ⟨y2, c2⟩ := cell_in HB1.out (q + 2) (by have := HC1.out; have := HQ.out; have := HP.out; omega)
  obtain ⟨y3, c3⟩ := cell_in HB1.out (q + 3) (by have := HC1.out; have := HQ.out; have := HP.out; omega)
  have f0 := blk_free HB1.out q
  have f1 := blk_free HB1.out (q + 1)
  have f2 := blk_free HB1.out (q + 2)
  have f3 := blk_free HB1.out (q + 3)
  have hq1 : 4 + 4 * p = q := HQ.out
  have hq2 : 4 + p * 4 = q := by have := HQ.out; omega
  have hp6 : decide ((p : Int) < 64) = true := decide_eq_true (by have := HP.out; omega)
  have hp7 : (p : Int) < 64 := by have := HP.out; omega
  have hn1 : ¬ b = i0 := by omega
  have hn2 : ¬ i0 = b := by omega
  go_region_held3 (fun w' => w'.cell? ⟨i0, 0, none⟩ = some (.int .u8 r) ∧ w'.cell? ⟨i0, 1, none⟩ = some (.int .u8 g) ∧ w'.cell? ⟨i0, 2, none⟩ = some (.int .u8 bl) ∧ w'.cell? ⟨i0, 3, none⟩ = some (.int .u8 a)) (go_keep) (first
    | (go_at_call 79; refine (KP.out _).mono ?_; rintro e u2 ⟨rfl, g2⟩; have G2 := Lib.hid (gb_trans (gb_drew w1 none) g2); have B2 := Lib.hid ((G2.out.block b (blk_lt HB1.out) (by simp)).trans HB1.out); have z0 := G2.out.cell x0 (by simp); have z1 := G2.out.cell x1 (by simp); have z2 := G2.out.cell x2 (by simp); have z3 := G2.out.cell x3 (by simp); have v0 := G2.out.cell c0 (by simp); have v1 := G2.out.cell c1 (by simp); have v2 := G2.out.cell c2 (by simp); have v3 := G2.out.cell c3 (by simp)
       have f0 := blk_free B2.out q; have f1 := blk_free B2.out (q + 1); have f2 := blk_free B2.out (q + 2); have f3 := blk_free B2.out (q + 3)))
  all_goals
    go_end0
    refine ⟨rfl, ?_, gb_trans HG1.out (gb_trans (gb_any G2.out (some b)) (gb_st4 u2 b q r g bl a))⟩
    rw [HCE.out, HQ.out]
    exact blk_st4 B2.out q r g bl a

end Go.Proofs.YtmhghkgcfgacdaaGreat.Qw

/- Layer 26: the first one of pixels; the memory ahead of all. -/
namespace Go.Proofs.YtmhghkgcfgacdaaGreat.Qw
open Go.ChangeShapes Go.WideShapes Go.ChangeAt Go.RowKit Go.Proofs.YtmhghkgcfgacdaaGreat.Le
set_option linter.unusedVariables false

theorem cell_ltQ {w : World} {b o : Nat} {v : Value} (h : w.cell? ⟨b, o, none⟩ = some v) : b < w.heap.size := by
  cases e : w.heap[b]? with
  | none => simp [World.cell?, e] at h
  | some x => exact (Array.getElem?_eq_some_iff.1 e).1

set_option maxRecDepth 100000 in
set_option maxHeartbeats 1000000 in
theorem first_calls (bk off n c r g bl a : Nat) (w : World) (hn : 4 ≤ n) (h0 : w.cell? ⟨bk, off, none⟩ = some (.int .u8 r)) (h1 : w.cell? ⟨bk, off + 1, none⟩ = some (.int .u8 g)) (h2 : w.cell? ⟨bk, off + 2, none⟩ = some (.int .u8 bl)) (h3 : w.cell? ⟨bk, off + 3, none⟩ = some (.int .u8 a)) :
    Calls Tryz.prog 56 #[.slice (some ⟨bk, off, none⟩) n c] w fun e w' => e = .returned (cQ r g bl a) ∧ w.grownBy w' none := by
  have d0 : (0 : Int) < (n : Int) := by omega
  have e0 : 0 < n := by omega
  have e1 : ¬ n = 0 := by omega
  have e2 : ¬ n ≤ 0 := by omega
  have d1 : (1 : Int) < (n : Int) := by omega
  have d2 : (2 : Int) < (n : Int) := by omega
  have d3 : (3 : Int) < (n : Int) := by omega
  have HX := Lib.hid (blk_at (w := w) (o := .cells #[.int .u8 0, .int .u8 0, .int .u8 0, .int .u8 0] 67))
  have HG := Lib.hid (World.grownBy_alloc w (.cells #[.int .u8 0, .int .u8 0, .int .u8 0, .int .u8 0] 67) none)
  have hlt : bk < w.heap.size := cell_ltQ h0
  obtain ⟨i0, hi0⟩ : ∃ i, w.heap.size = i := ⟨_, rfl⟩
  have x0 := HG.out.cell h0 (by simp)
  have x1 := HG.out.cell h1 (by simp)
  have x2 := HG.out.cell h2 (by simp)
  have x3 := HG.out.cell h3 (by simp)
  have HW := Lib.hid hi0
  unfold cQ
  clear h0 h1 h2 h3 hn
  go_enter Tryz.func56, Tryz.ntmps56
  go_upto_region 1 with fail
  generalize w.alloc (.cells #[.int .u8 0, .int .u8 0, .int .u8 0, .int .u8 0] 67) = w0 at HX HG x0 x1 x2 x3 ⊢
  rw [hi0] at HX hlt
  clear hi0
  have hn1 : ¬ bk = i0 := by omega
  have hn2 : ¬ i0 = bk := by omega
  have y0 := blk_cell HX.out 0
  have y1 := blk_cell HX.out 1
  have y2 := blk_cell HX.out 2
  have y3 := blk_cell HX.out 3
  have f0 := blk_free HX.out 0
  have f1 := blk_free HX.out 1
  have f2 := blk_free HX.out 2
  have f3 := blk_free HX.out 3
  simp only [List.getElem?_toArray, List.getElem?_cons_succ, List.getElem?_cons_zero] at y0 y1 y2 y3
  go_region_held3 (fun w' => w'.cell? ⟨bk, off, none⟩ = some (.int .u8 r) ∧ w'.cell? ⟨bk, off + 1, none⟩ = some (.int .u8 g) ∧ w'.cell? ⟨bk, off + 2, none⟩ = some (.int .u8 bl) ∧ w'.cell? ⟨bk, off + 3, none⟩ = some (.int .u8 a)) (go_keep) (fail)
  all_goals
    go_wp2
    refine bodyPost_ret (v := .agg #[.int .u8 r, .int .u8 g, .int .u8 bl, .int .u8 a]) (by simp only [results, Tryz.results56]; go_simp) rfl ⟨rfl, ?_⟩
    exact gb_own (gb_own (gb_own (gb_own HG.out (by rw [HW.out]; exact Nat.le_refl _) (gb_set w0 i0 0 _)) (by rw [HW.out]; exact Nat.le_refl _) (gb_set _ i0 1 _)) (by rw [HW.out]; exact Nat.le_refl _) (gb_set _ i0 2 _)) (by rw [HW.out]; exact Nat.le_refl _) (gb_trans (gb_set _ i0 3 _) (gb_drewN _ _ _))

end Go.Proofs.YtmhghkgcfgacdaaGreat.Qw
