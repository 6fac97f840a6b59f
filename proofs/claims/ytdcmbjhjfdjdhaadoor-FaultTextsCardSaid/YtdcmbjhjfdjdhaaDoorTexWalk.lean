/- FaultTexts, walked. -/
import Derived.Test.YtdcmbjhjfdjdhaaDoorFauC
import Derived.Test.YtdcmbjhjfdjdhaaDoorFau2
namespace Go.Proofs.YtdcmbjhjfdjdhaaDoor.Fa
open Go.ChangeShapes Go.WideShapes Go.ChangeAt Go.RowKit
open Go.Proofs.YtdcmbjhjfdjdhaaDoor.Le
set_option linter.unusedVariables false

set_option maxRecDepth 100000 in
set_option maxHeartbeats 8000000 in
theorem texts_walk (k x a m : Int) (w : World) (h0 : -9223372036854775808 ≤ a) (h1 : a ≤ 9223372036854775807) (ht : Ten w) (hm : w.cell? ⟨0, 0, none⟩ = some (.int .i64 m)) :
    Calls Tryd.prog 3 #[.agg #[.int .i64 k, .int .i64 x, .int .i64 a]] w fun e w' => e = .returned (.bool true) ∧ w.grownBy w' none := by
  have P := Lib.hid (fun s w' hs (g : w.grownBy w' none) => parse_calls s m w' hs (g.cell hm (by simp)))
  have A1 := Lib.hid (fun w => kind_calls k w)
  have A2 := Lib.hid (fun w => rkind_calls k w)
  have B1 := Lib.hid (fun w => format_calls x w)
  have B2 := Lib.hid (fun w => rformat_calls x w)
  have AW := Lib.hid (fun w => awake_calls w)
  have T := fun w' (g : w.grownBy w' none) => text_calls k x a w' h0 h1 (ht.kept g)
  have R1 := fun w => right_calls k x a w
  have R2 := fun w => (rright_calls k x a w).mono (fun e w' h => (show e = .returned (.bool (rightB k x a)) ∧ w.grownBy w' none from ⟨h.1, h.2 ▸ gb_refl _ _⟩))
  cases hr : rightB k x a
  · unfold textV at T
    rw [hr] at T R1 R2
    simp only [Bool.false_eq_true, if_false] at T
    have T := Lib.hid T
    have R1 := Lib.hid R1
    have R2 := Lib.hid R2
    clear ht hm
    go_enter Tryd.func3, Tryd.ntmps3
    go_wp2_with fail
    refine (T.out _ (World.grownBy_alloc _ _ none)).mono ?_
    rintro e w1 ⟨rfl, g1⟩
    have b0 := old1 g1 (by simp)
    have c0 := blk_cell b0 0
    have c1 := blk_cell b0 1
    have c2 := blk_cell b0 2
    simp only [List.getElem?_toArray, List.getElem?_cons_succ, List.getElem?_cons_zero] at c0 c1 c2
    have G1 := Lib.hid (gb_trans (World.grownBy_alloc _ _ none) g1)
    clear g1
    go_wp2_with fail
    go_region_held3 (fun w' => w'.cell? ⟨w.heap.size, 0, none⟩ = some (.int .i64 k) ∧ w'.cell? ⟨w.heap.size, 1, none⟩ = some (.int .i64 x) ∧ w'.cell? ⟨w.heap.size, 2, none⟩ = some (.int .i64 a)) (go_keep)
      (first | (go_at_call 7; refine (R1.out _).mono ?_; rintro e w2 ⟨rfl, g2⟩; have pb0 : w2.cell? ⟨w.heap.size, 0, none⟩ = some (.int .i64 k) := g2.cell c0 (by simp); have pb1 : w2.cell? ⟨w.heap.size, 1, none⟩ = some (.int .i64 x) := g2.cell c1 (by simp); have pb2 : w2.cell? ⟨w.heap.size, 2, none⟩ = some (.int .i64 a) := g2.cell c2 (by simp); have G2 := Lib.hid (gb_trans (gb_trans G1.out (gb_drew _ _)) g2)) | (go_at_call 8; refine (R2.out _).mono ?_; rintro e w3 ⟨rfl, g3⟩; have pc0 : w3.cell? ⟨w.heap.size, 0, none⟩ = some (.int .i64 k) := g3.cell pb0 (by simp); have pc1 : w3.cell? ⟨w.heap.size, 1, none⟩ = some (.int .i64 x) := g3.cell pb1 (by simp); have pc2 : w3.cell? ⟨w.heap.size, 2, none⟩ = some (.int .i64 a) := g3.cell pb2 (by simp); have G3 := Lib.hid (gb_trans G2.out g3)) | (go_at_call 9; refine (A1.out _).mono ?_; rintro e w4 ⟨rfl, g4⟩; have pd0 : w4.cell? ⟨w.heap.size, 0, none⟩ = some (.int .i64 k) := g4.cell pc0 (by simp); have pd1 : w4.cell? ⟨w.heap.size, 1, none⟩ = some (.int .i64 x) := g4.cell pc1 (by simp); have pd2 : w4.cell? ⟨w.heap.size, 2, none⟩ = some (.int .i64 a) := g4.cell pc2 (by simp); have G4 := Lib.hid (gb_trans G3.out g4)) | (go_at_call 10; refine (A2.out _).mono ?_; rintro e w5 ⟨rfl, g5⟩; have pe0 : w5.cell? ⟨w.heap.size, 0, none⟩ = some (.int .i64 k) := g5.cell pd0 (by simp); have pe1 : w5.cell? ⟨w.heap.size, 1, none⟩ = some (.int .i64 x) := g5.cell pd1 (by simp); have pe2 : w5.cell? ⟨w.heap.size, 2, none⟩ = some (.int .i64 a) := g5.cell pd2 (by simp); have G5 := Lib.hid (gb_trans G4.out g5)) | (go_at_call 11; refine (B1.out _).mono ?_; rintro e w6 ⟨rfl, g6⟩; have pf0 : w6.cell? ⟨w.heap.size, 0, none⟩ = some (.int .i64 k) := g6.cell pe0 (by simp); have pf1 : w6.cell? ⟨w.heap.size, 1, none⟩ = some (.int .i64 x) := g6.cell pe1 (by simp); have pf2 : w6.cell? ⟨w.heap.size, 2, none⟩ = some (.int .i64 a) := g6.cell pe2 (by simp); have G6 := Lib.hid (gb_trans G5.out g6)) | (go_at_call 12; refine (B2.out _).mono ?_; rintro e w7 ⟨rfl, g7⟩; have pg0 : w7.cell? ⟨w.heap.size, 0, none⟩ = some (.int .i64 k) := g7.cell pf0 (by simp); have pg1 : w7.cell? ⟨w.heap.size, 1, none⟩ = some (.int .i64 x) := g7.cell pf1 (by simp); have pg2 : w7.cell? ⟨w.heap.size, 2, none⟩ = some (.int .i64 a) := g7.cell pf2 (by simp); have G7 := Lib.hid (gb_trans G6.out g7)))
    go_wp2_with fail
    refine (R2.out _).mono ?_
    rintro e w8 ⟨rfl, g8⟩
    have G8 := Lib.hid (gb_trans G7.out g8)
    clear g8
    go_wp2_with fail
    refine (AW.out _).mono ?_
    rintro e w9 ⟨rfl, g9⟩
    have G9 := Lib.hid (gb_trans G8.out g9)
    clear g9
    go_wp2
    go_ret
    exact ⟨rfl, G9.out⟩
  · have hR := right_is hr
    obtain ⟨n, rfl⟩ := Int.eq_ofNat_of_zero_le hR.2.2.2.2.1
    have hit : Lib.itoa (n : Int) = Lib.decDigits n := by unfold Lib.itoa; rw [if_neg (by omega)]; rfl
    have hp := parse_text k x n hr
    have RT := fun w => rtext_calls k x n (by omega) w
    unfold textV at T
    rw [hr] at T R1 R2
    rw [hit] at T
    simp only [if_true] at T
    have hS : (kw k ++ ⟨#[32]⟩ ++ fw x ++ ⟨#[32]⟩ ++ ⟨(Lib.decDigits n).toArray⟩ : ByteArray).size ≤ 2147483647 := by
      have z1 := kw_size k
      have z2 := fw_size x
      have z3 : (⟨(Lib.decDigits n).toArray⟩ : ByteArray).size ≤ 20 := by
        rw [Lib.size_eq]
        show (Lib.decDigits n).length ≤ 20
        rw [Lib.decDigits_length]
        exact Lib.nDigits_le20 _ (by omega)
      simp only [ByteArray.size_append]
      show kw k |>.size |> (· + 1 + (fw x).size + 1 + _ ≤ _)
      omega
    obtain ⟨s, hs⟩ : ∃ s, (kw k ++ ⟨#[32]⟩ ++ fw x ++ ⟨#[32]⟩ ++ ⟨(Lib.decDigits n).toArray⟩ : ByteArray) = s := ⟨_, rfl⟩
    rw [hs] at T RT hp hS
    have P := fun w' g => P.out s w' hS g
    rw [hp] at P
    have P := Lib.hid P
    have RT := Lib.hid RT
    have T := Lib.hid T
    have R1 := Lib.hid R1
    have R2 := Lib.hid R2
    clear ht hm hs hp hit hS
    obtain ⟨a, ha⟩ : ∃ a : Int, (n : Int) = a := ⟨_, rfl⟩
    rw [ha] at T RT P R1 R2 ⊢
    clear ha
    go_enter Tryd.func3, Tryd.ntmps3
    go_wp2_with fail
    refine (T.out _ (World.grownBy_alloc _ _ none)).mono ?_
    rintro e w1 ⟨rfl, g1⟩
    have b0 := old1 g1 (by simp)
    have c0 := blk_cell b0 0
    have c1 := blk_cell b0 1
    have c2 := blk_cell b0 2
    simp only [List.getElem?_toArray, List.getElem?_cons_succ, List.getElem?_cons_zero] at c0 c1 c2
    have G1 := Lib.hid (gb_trans (World.grownBy_alloc _ _ none) g1)
    clear g1
    go_wp2_with fail
    go_region_held3 (fun w' => w'.cell? ⟨w.heap.size, 0, none⟩ = some (.int .i64 k) ∧ w'.cell? ⟨w.heap.size, 1, none⟩ = some (.int .i64 x) ∧ w'.cell? ⟨w.heap.size, 2, none⟩ = some (.int .i64 a)) (go_keep)
      (first | (go_at_call 7; refine (R1.out _).mono ?_; rintro e w2 ⟨rfl, g2⟩; have pb0 : w2.cell? ⟨w.heap.size, 0, none⟩ = some (.int .i64 k) := g2.cell c0 (by simp); have pb1 : w2.cell? ⟨w.heap.size, 1, none⟩ = some (.int .i64 x) := g2.cell c1 (by simp); have pb2 : w2.cell? ⟨w.heap.size, 2, none⟩ = some (.int .i64 a) := g2.cell c2 (by simp); have G2 := Lib.hid (gb_trans (gb_trans G1.out (gb_drew _ _)) g2)) | (go_at_call 8; refine (R2.out _).mono ?_; rintro e w3 ⟨rfl, g3⟩; have pc0 : w3.cell? ⟨w.heap.size, 0, none⟩ = some (.int .i64 k) := g3.cell pb0 (by simp); have pc1 : w3.cell? ⟨w.heap.size, 1, none⟩ = some (.int .i64 x) := g3.cell pb1 (by simp); have pc2 : w3.cell? ⟨w.heap.size, 2, none⟩ = some (.int .i64 a) := g3.cell pb2 (by simp); have G3 := Lib.hid (gb_trans G2.out g3)) | (go_at_call 9; refine (A1.out _).mono ?_; rintro e w4 ⟨rfl, g4⟩; have pd0 : w4.cell? ⟨w.heap.size, 0, none⟩ = some (.int .i64 k) := g4.cell pc0 (by simp); have pd1 : w4.cell? ⟨w.heap.size, 1, none⟩ = some (.int .i64 x) := g4.cell pc1 (by simp); have pd2 : w4.cell? ⟨w.heap.size, 2, none⟩ = some (.int .i64 a) := g4.cell pc2 (by simp); have G4 := Lib.hid (gb_trans G3.out g4)) | (go_at_call 10; refine (A2.out _).mono ?_; rintro e w5 ⟨rfl, g5⟩; have pe0 : w5.cell? ⟨w.heap.size, 0, none⟩ = some (.int .i64 k) := g5.cell pd0 (by simp); have pe1 : w5.cell? ⟨w.heap.size, 1, none⟩ = some (.int .i64 x) := g5.cell pd1 (by simp); have pe2 : w5.cell? ⟨w.heap.size, 2, none⟩ = some (.int .i64 a) := g5.cell pd2 (by simp); have G5 := Lib.hid (gb_trans G4.out g5)) | (go_at_call 11; refine (B1.out _).mono ?_; rintro e w6 ⟨rfl, g6⟩; have pf0 : w6.cell? ⟨w.heap.size, 0, none⟩ = some (.int .i64 k) := g6.cell pe0 (by simp); have pf1 : w6.cell? ⟨w.heap.size, 1, none⟩ = some (.int .i64 x) := g6.cell pe1 (by simp); have pf2 : w6.cell? ⟨w.heap.size, 2, none⟩ = some (.int .i64 a) := g6.cell pe2 (by simp); have G6 := Lib.hid (gb_trans G5.out g6)) | (go_at_call 12; refine (B2.out _).mono ?_; rintro e w7 ⟨rfl, g7⟩; have pg0 : w7.cell? ⟨w.heap.size, 0, none⟩ = some (.int .i64 k) := g7.cell pf0 (by simp); have pg1 : w7.cell? ⟨w.heap.size, 1, none⟩ = some (.int .i64 x) := g7.cell pf1 (by simp); have pg2 : w7.cell? ⟨w.heap.size, 2, none⟩ = some (.int .i64 a) := g7.cell pf2 (by simp); have G7 := Lib.hid (gb_trans G6.out g7)))
    go_wp2_with fail
    refine (R2.out _).mono ?_
    rintro e w8 ⟨rfl, g8⟩
    have ph0 := g8.cell pg0 (by simp)
    have ph1 := g8.cell pg1 (by simp)
    have ph2 := g8.cell pg2 (by simp)
    have G8 := Lib.hid (gb_trans G7.out g8)
    clear g8
    go_wp2_with fail
    refine (P.out _ G8.out).mono ?_
    rintro e w9 ⟨rfl, g9⟩
    have pi0 := g9.cell ph0 (by simp)
    have pi1 := g9.cell ph1 (by simp)
    have pi2 := g9.cell ph2 (by simp)
    have gF := World.grownBy_alloc w9 (.cells #[.int .i64 k, .int .i64 x, .int .i64 a] 23) none
    have pj0 := gF.cell pi0 (by simp)
    have pj1 := gF.cell pi1 (by simp)
    have pj2 := gF.cell pi2 (by simp)
    have G9 := Lib.hid (gb_trans (gb_trans G8.out g9) gF)
    clear g9 gF
    go_wp2_with fail
    refine (RT.out _).mono ?_
    rintro e w10 ⟨rfl, g10⟩
    have b10 := old1 g10 (by simp)
    have q0 := blk_cell b10 0
    have q1 := blk_cell b10 1
    have q2 := blk_cell b10 2
    simp only [List.getElem?_toArray, List.getElem?_cons_succ, List.getElem?_cons_zero] at q0 q1 q2
    have pk0 := g10.cell pj0 (by simp)
    have pk1 := g10.cell pj1 (by simp)
    have pk2 := g10.cell pj2 (by simp)
    have G10 := Lib.hid (gb_trans G9.out g10)
    clear g10 b10
    go_wp2_with fail
    refine (AW.out _).mono ?_
    rintro e w11 ⟨rfl, g11⟩
    have G11 := Lib.hid (gb_trans G10.out g11)
    clear g11
    go_wp2
    go_ret
    exact ⟨rfl, G11.out⟩

end Go.Proofs.YtdcmbjhjfdjdhaaDoor.Fa
