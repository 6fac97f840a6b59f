/- Texts of one kind, one behind the other: Qf1. -/
import Derived.Test.YtmhghkgcfgacdaaGreatG17
import Derived.Test.YtmhghkgcfgacdaaGreatG18
import Derived.Test.YtmhghkgcfgacdaaGreatG33
import Derived.Test.YtmhghkgcfgacdaaGreatG45
import Derived.Test.YtmhghkgcfgacdaaGreatG46
/- Layer 26: the document's Decode of any text (written by wip/gen/qf.py). -/
namespace Go.Proofs.YtmhghkgcfgacdaaGreat.Qo
open Go.ChangeShapes Go.WideShapes Go.ChangeAt Go.RowKit
open Go.Proofs.YtmhghkgcfgacdaaGreat.Le Go.Proofs.YtmhghkgcfgacdaaGreat.Tk Go.Proofs.YtmhghkgcfgacdaaGreat.Sr Go.Proofs.YtmhghkgcfgacdaaGreat.Sh Go.Proofs.YtmhghkgcfgacdaaGreat.Qw Go.Proofs.YtmhghkgcfgacdaaGreat.Qd
open Go.Proofs.YtmhghkgcfgacdaaGreat.Ra hiding bt
set_option linter.unusedVariables false

set_option maxRecDepth 100000 in
theorem rdec_short (s : ByteArray) (h14 : s.size < 14) (w h : Nat) (l : List (Nat × Nat × Nat × Nat)) (W : World) :
    Calls Tryz.prog 10 #[.string s] W (DQ W w h 1 s.size l) := by
  have KB := fun u => bad13_calls 1 (s.size : Int) u
  unfold imB at KB
  have KB := Lib.hid KB
  have d1 : decide ((s.size : Int) < 14) = true := decide_eq_true (by omega)
  have d1' : (s.size : Int) < 14 := by omega
  have G0 := Lib.hid (World.grownBy_alloc W (.cells #[.int .i64 0, .int .i64 0, .slice none 0 0, .int .i64 0, .int .i64 0] 39) none)
  have I0 := Lib.hid (blk_at (w := W) (o := .cells #[.int .i64 0, .int .i64 0, .slice none 0 0, .int .i64 0, .int .i64 0] 39))
  clear h14
  go_enter Tryz.func10, Tryz.ntmps10
  go_wp2_with fail
  generalize W.alloc (.cells #[.int .i64 0, .int .i64 0, .slice none 0 0, .int .i64 0, .int .i64 0] 39) = w0 at G0 I0 ⊢
  refine (KB.out _).mono ?_
  rintro e w2 ⟨rfl, G2⟩
  have I2 := (G2.block _ (blk_lt I0.out) (by simp)).trans I0.out
  have HG2 := Lib.hid (gb_trans G0.out G2)
  have q0 := blk_cell I2 0
  have q1 := blk_cell I2 1
  have q2 := blk_cell I2 2
  have q3 := blk_cell I2 3
  have q4 := blk_cell I2 4
  simp only [List.getElem?_toArray, List.getElem?_cons_succ, List.getElem?_cons_zero] at q0 q1 q2 q3 q4
  have f0 := blk_free I2 0
  have f1 := blk_free I2 1
  have f2 := blk_free I2 2
  have f3 := blk_free I2 3
  have f4 := blk_free I2 4
  clear I2 G2 G0 I0
  go_wp2
  refine bodyPost_ret (v := .agg (imB 1 (s.size : Int))) (by simp only [results, Tryz.results10, imB]; go_simp) rfl ⟨?_, .inl ⟨by decide, rfl⟩⟩
  exact Tn.own HG2.out (show Tn w2 (((((w2.setCell ⟨W.heap.size, 0, none⟩ (.int .i64 0)).setCell ⟨W.heap.size, 1, none⟩ (.int .i64 0)).setCell ⟨W.heap.size, 2, none⟩ (.slice none 0 0)).setCell ⟨W.heap.size, 3, none⟩ (.int .i64 1)).setCell ⟨W.heap.size, 4, none⟩ (.int .i64 (s.size : Int))) [W.heap.size] from (((((Tn.refl w2 _).st (by simp)).st (by simp)).st (by simp)).st (by simp)).st (by simp)) (by intro i hi; simp at hi; left; omega)

set_option maxRecDepth 100000 in
set_option maxHeartbeats 1000000 in
theorem rdec_bad (s : ByteArray) (K w h kd pl : Nat) (M : MK sgQ s K) (hn : 14 ≤ s.size) (hs : s.size ≤ 9223372036854775807) (ew : beV s 4 = w) (eh : beV s 8 = h) (hkd : kdQ K w h (chK (bt s 12) (bt s 13)) = kd) (hpl : ppQ K w h (chP (bt s 12) (bt s 13)) = pl) (hne : kd ≠ 0) (x y : Nat) (l : List (Nat × Nat × Nat × Nat)) (W : World) :
    Calls Tryz.prog 10 #[.string s] W (DQ W x y kd pl l) := by
  have KC := fun u => check_calls s K w h kd pl M hn hs ew eh hkd hpl u
  unfold imB at KC
  have KC := Lib.hid KC
  have d1 : decide ((s.size : Int) < 14) = false := decide_eq_false (by omega)
  have d1' : ¬ (s.size : Int) < 14 := by omega
  have d2 : ((kd : Int) != 0) = true := by rw [bne_iff_ne]; omega
  have d2' : ¬ (kd : Int) = 0 := by omega
  have HNE := Lib.hid hne
  have G0 := Lib.hid (World.grownBy_alloc W (.cells #[.int .i64 0, .int .i64 0, .slice none 0 0, .int .i64 0, .int .i64 0] 39) none)
  have I0 := Lib.hid (blk_at (w := W) (o := .cells #[.int .i64 0, .int .i64 0, .slice none 0 0, .int .i64 0, .int .i64 0] 39))
  clear M hn hs ew eh hkd hpl hne
  go_enter Tryz.func10, Tryz.ntmps10
  go_wp2_with fail
  generalize W.alloc (.cells #[.int .i64 0, .int .i64 0, .slice none 0 0, .int .i64 0, .int .i64 0] 39) = w0 at G0 I0 ⊢
  refine (KC.out _).mono ?_
  rintro e w2 ⟨rfl, G2⟩
  have g3 := World.grownBy_alloc w2 (.cells #[.int .i64 0, .int .i64 0, .slice none 0 0, .int .i64 kd, .int .i64 pl] 39) none
  have I2 := (gb_trans G2 g3).block _ (blk_lt I0.out) (by simp)
  have I3 := I2.trans I0.out
  have J3 : (w2.alloc (.cells #[.int .i64 0, .int .i64 0, .slice none 0 0, .int .i64 kd, .int .i64 pl] 39)).heap[w2.heap.size]? = _ := blk_at
  have HG3 := Lib.hid (gb_trans G0.out (gb_trans G2 g3))
  have q0 := blk_cell I3 0
  have q1 := blk_cell I3 1
  have q2 := blk_cell I3 2
  have q3 := blk_cell I3 3
  have q4 := blk_cell I3 4
  have j0 := blk_cell J3 0
  have j1 := blk_cell J3 1
  have j2 := blk_cell J3 2
  have j3 := blk_cell J3 3
  have j4 := blk_cell J3 4
  simp only [List.getElem?_toArray, List.getElem?_cons_succ, List.getElem?_cons_zero] at q0 q1 q2 q3 q4 j0 j1 j2 j3 j4
  have f0 := blk_free I3 0
  have f1 := blk_free I3 1
  have f2 := blk_free I3 2
  have f3 := blk_free I3 3
  have f4 := blk_free I3 4
  have hlt := blk_lt I0.out
  have hsz := G2.size
  have n1 : ¬ w2.heap.size = W.heap.size := by omega
  have n2 : ¬ W.heap.size = w2.heap.size := by omega
  clear I2 I3 J3 G2 G0 I0 g3
  go_wp2_with fail
  generalize w2.alloc (.cells #[.int .i64 0, .int .i64 0, .slice none 0 0, .int .i64 kd, .int .i64 pl] 39) = w3 at HG3 q0 q1 q2 q3 q4 j0 j1 j2 j3 j4 f0 f1 f2 f3 f4 ⊢
  go_wp2
  refine bodyPost_ret (v := .agg (imB kd pl)) (by simp only [results, Tryz.results10, imB]; go_simp) rfl ⟨?_, .inl ⟨HNE.out, rfl⟩⟩
  exact Tn.own HG3.out (show Tn w3 (((((w3.setCell ⟨W.heap.size, 0, none⟩ (.int .i64 0)).setCell ⟨W.heap.size, 1, none⟩ (.int .i64 0)).setCell ⟨W.heap.size, 2, none⟩ (.slice none 0 0)).setCell ⟨W.heap.size, 3, none⟩ (.int .i64 kd)).setCell ⟨W.heap.size, 4, none⟩ (.int .i64 pl)) [W.heap.size] from (((((Tn.refl w3 _).st (by simp)).st (by simp)).st (by simp)).st (by simp)).st (by simp)) (by intro i hi; simp at hi; left; omega)

theorem by_of {g : Nat} {S : ByteArray} {w : World} (h : w.heap[g]? = some (.cells (Bu.bys S) 5 (0, 0))) : Lib.Bytes w g 0 S := fun i hi => by
  rw [Nat.zero_add]
  exact (blk_cell h i).trans (Bu.bys_at S i hi)
theorem bx_of {g : Nat} {S : ByteArray} {w : World} (h : w.heap[g]? = some (.cells (Bu.bys S) 5 (0, 0))) : Bx (some ⟨g, 0, none⟩) S w := .inr ⟨g, 0, rfl, by_of h⟩

theorem ppq_bad {K w h t : Nat} (hK : K ≤ 4) (hk : kdS 4 K w h ≠ 0) : ppQ K w h t = plS 4 K w h := by
  unfold kdS at hk
  unfold ppQ plS
  by_cases h1 : K < 4
  · rw [if_pos h1, if_pos h1]
  · rw [if_neg h1, if_neg h1]
    rw [if_neg h1] at hk
    by_cases h2 : sdK w ≠ 0
    · rw [if_pos h2, if_pos h2]
    · rw [if_neg h2, if_neg h2]
      rw [if_neg h2] at hk
      rw [if_pos hk, if_pos hk]
theorem ppq_ok {w h t : Nat} (hk : kdS 4 4 w h = 0) : ppQ 4 w h t = t := by
  unfold kdS at hk
  unfold ppQ
  rw [if_neg (by omega)] at hk ⊢
  by_cases h2 : sdK w ≠ 0
  · rw [if_pos h2] at hk
    exact absurd hk h2
  · rw [if_neg h2] at hk ⊢
    rw [if_neg (by omega)]
/-- The document's Decode of any text; and the pixels. -/
theorem rdec_of {s : ByteArray} {v : TV} (ST : StepOk s) (C : Cl s v) (hs : s.size ≤ 1000) (h1 : v.w ≤ 60) (h2 : v.h ≤ 60) : ∃ P : Nat → Nat → Int, (∀ k j, 0 ≤ P k j ∧ P k j ≤ 255) ∧
    ((v.w = 0 ∧ v.h = 0 ∧ v.f ≠ 0) ∨ (1 ≤ v.w ∧ v.w ≤ 16384 ∧ 1 ≤ v.h ∧ v.h ≤ 16384 ∧ v.A = rk P (v.w * v.h) (v.w * v.h))) ∧
    ∀ W, Calls Tryz.prog 10 #[.string s] W (DQ W v.w v.h v.f v.p (qL P (v.w * v.h))) := by
  have z : ∀ k j : Nat, (0 : Int) ≤ (fun (_ _ : Nat) => (0 : Int)) k j ∧ (fun (_ _ : Nat) => (0 : Int)) k j ≤ 255 := fun _ _ => ⟨Int.le_refl 0, (show (0 : Int) ≤ 255 from by decide)⟩
  cases C with
  | short h => exact ⟨fun _ _ => 0, z, .inl ⟨rfl, rfl, by show (1 : Nat) ≠ 0; decide⟩, fun W => rdec_short s h 0 0 _ W⟩
  | bad K h14 M hk => exact ⟨fun _ _ => 0, z, .inl ⟨rfl, rfl, hk⟩, fun W => rdec_bad s K _ _ _ _ M h14 (by omega) rfl rfl (kdq_bad _ M.le hk) (ppq_bad M.le hk) hk 0 0 _ W⟩
  | chan h14 M hk h3 h4 => exact ⟨fun _ _ => 0, z, .inl ⟨rfl, rfl, by show (2 : Nat) ≠ 0; decide⟩, fun W => rdec_bad s 4 _ _ 2 12 M h14 (by omega) rfl rfl (by rw [kdq_ok _ hk]; unfold chK; rw [if_pos ⟨h3, h4⟩]) (by rw [ppq_ok hk]; unfold chP; rw [if_pos ⟨h3, h4⟩]) (by decide) 0 0 _ W⟩
  | space h14 M hk hc hs1 => exact ⟨fun _ _ => 0, z, .inl ⟨rfl, rfl, by show (2 : Nat) ≠ 0; decide⟩, fun W => rdec_bad s 4 _ _ 2 13 M h14 (by omega) rfl rfl (by rw [kdq_ok _ hk]; unfold chK; rw [if_neg (show ¬ (bt s 12 ≠ 3 ∧ bt s 12 ≠ 4) by omega), if_pos hs1]) (by rw [ppq_ok hk]; unfold chP; rw [if_neg (show ¬ (bt s 12 ≠ 3 ∧ bt s 12 ≠ 4) by omega), if_pos hs1]) (by decide) 0 0 _ W⟩
  | pix n w h J f p N h14 M ew eh hk hc hs1 hn E =>
    obtain ⟨_, w1, w2, g1, g2⟩ := kd0 (Nat.le_refl _) hk
    have h1' : w ≤ 60 := h1
    have h2' : h ≤ 60 := h2
    have hb : w * h ≤ 60 * 60 := Nat.mul_le_mul h1' h2'
    refine ⟨CF (sq s J), fun k j => cf_bd (okr s J) k j, .inr ⟨w1, w2, g1, g2, by rw [hn]⟩, fun W => ?_⟩
    have K := rdec_head s w h n J f p N ST M h14 hs ew eh (by rw [kdq_ok _ hk]; unfold chK; rw [if_neg (show ¬ (bt s 12 ≠ 3 ∧ bt s 12 ≠ 4) by omega), if_neg (show ¬ 1 < bt s 13 by omega)]) w2 g2 hn (by omega) E W
    rw [← hn] at K
    exact K

end Go.Proofs.YtmhghkgcfgacdaaGreat.Qo
