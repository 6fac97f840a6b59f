/- The chapter's example of layer 3, walked. -/
import Derived.Test.YtdcmbjhjfdjdhaaDoorFau1
namespace Go.Proofs.YtdcmbjhjfdjdhaaDoor.Fa
open Go.ChangeShapes Go.WideShapes Go.ChangeAt Go.RowKit
open Go.Proofs.YtdcmbjhjfdjdhaaDoor.Le
set_option linter.unusedVariables false

set_option maxRecDepth 100000 in
theorem itoa14 (w : World) : Calls Tryd.prog 21 #[.int .i64 14] w fun e w' => e = .returned (.string ⟨#[49, 52]⟩) ∧ w = w' := by
  go_enter Tryd.func21, Tryd.ntmps21
  go_wp2
  go_ret
  exact ⟨rfl, rfl⟩

set_option maxRecDepth 100000 in
theorem right_ex (w : World) : Calls Tryd.prog 7 #[.agg #[.int .i64 2, .int .i64 1, .int .i64 14]] w fun e w' => e = .returned (.bool true) ∧ w.grownBy w' none := by
  have K1 := Lib.hid (fun w => kind_calls 2 w)
  have K2 := Lib.hid (fun w => format_calls 1 w)
  go_enter Tryd.func7, Tryd.ntmps7
  go_wp2_with fail
  refine (K1.out _).mono ?_
  rintro e w1 ⟨rfl, g1⟩
  rw [show kw 2 = ⟨#[109, 97, 108, 102, 111, 114, 109, 101, 100]⟩ from rfl]
  have b0 := old1 g1 (by simp)
  have c1 := blk_cell b0 1
  have c2 := blk_cell b0 2
  simp only [List.getElem?_toArray, List.getElem?_cons_succ, List.getElem?_cons_zero] at c1 c2
  have B0 := Lib.hid b0
  have G1 := Lib.hid (gb_trans (World.grownBy_alloc _ _ _) g1)
  clear b0 g1
  go_wp2_with fail
  refine (K2.out _).mono ?_
  rintro e w2 ⟨rfl, g2⟩
  rw [show fw 1 = ⟨#[98, 109, 112]⟩ from rfl]
  have b0 := old0 g2 B0.out (blk_lt B0.out) (by simp)
  clear c1 c2
  have c2 := blk_cell b0 2
  simp only [List.getElem?_toArray, List.getElem?_cons_succ, List.getElem?_cons_zero] at c2
  have G2 := Lib.hid (gb_trans G1.out g2)
  clear b0 g2
  go_wp2
  go_ret
  exact ⟨rfl, G2.out⟩

theorem cat_ex : ((⟨#[109, 97, 108, 102, 111, 114, 109, 101, 100]⟩ : ByteArray) ++ ⟨#[32]⟩ ++ ⟨#[98, 109, 112]⟩ ++ ⟨#[32]⟩ ++ ⟨#[49, 52]⟩) = ⟨#[109, 97, 108, 102, 111, 114, 109, 101, 100, 32, 98, 109, 112, 32, 49, 52]⟩ := by
  apply ByteArray.ext
  simp only [ByteArray.data_append]
  rfl

set_option maxRecDepth 100000 in
set_option maxHeartbeats 4000000 in
theorem text_ex (w : World) : Calls Tryd.prog 6 #[.agg #[.int .i64 2, .int .i64 1, .int .i64 14]] w
    fun e w' => e = .returned (.tuple #[.string ⟨#[109, 97, 108, 102, 111, 114, 109, 101, 100, 32, 98, 109, 112, 32, 49, 52]⟩, .int .i64 0]) ∧ w.grownBy w' none := by
  have K0 := Lib.hid (fun w => right_ex w)
  have K1 := Lib.hid (fun w => (show Calls Tryd.prog 9 #[.int .i64 2] w fun e w' => e = .returned (.string ⟨#[109, 97, 108, 102, 111, 114, 109, 101, 100]⟩) ∧ w.grownBy w' none from kind_calls 2 w))
  have K2 := Lib.hid (fun w => (show Calls Tryd.prog 11 #[.int .i64 1] w fun e w' => e = .returned (.string ⟨#[98, 109, 112]⟩) ∧ w.grownBy w' none from format_calls 1 w))
  have K3 := Lib.hid (fun w => itoa14 w)
  go_enter Tryd.func6, Tryd.ntmps6
  go_wp2_with fail
  refine (K0.out _).mono ?_
  rintro e w1 ⟨rfl, g1⟩
  have b0 := old1 g1 (by simp)
  have c0 := blk_cell b0 0
  have c1 := blk_cell b0 1
  have c2 := blk_cell b0 2
  simp only [List.getElem?_toArray, List.getElem?_cons_succ, List.getElem?_cons_zero] at c0 c1 c2
  have G1 := Lib.hid (gb_trans (World.grownBy_alloc _ _ _) g1)
  clear b0 g1 K0
  go_wp2_with fail
  go_region_held3 (fun w' => w'.cell? ⟨w.heap.size, 0, none⟩ = some (.int .i64 2) ∧ w'.cell? ⟨w.heap.size, 1, none⟩ = some (.int .i64 1) ∧ w'.cell? ⟨w.heap.size, 2, none⟩ = some (.int .i64 14)) (go_keep)
    (first | (go_at_call 9; refine (K1.out _).mono ?_; rintro e w2 ⟨rfl, g2⟩; have kk0 : w2.cell? ⟨w.heap.size, 0, none⟩ = some (.int .i64 2) := g2.cell c0 (by simp); have kk1 : w2.cell? ⟨w.heap.size, 1, none⟩ = some (.int .i64 1) := g2.cell c1 (by simp); have kk2 : w2.cell? ⟨w.heap.size, 2, none⟩ = some (.int .i64 14) := g2.cell c2 (by simp); have G2 := Lib.hid (gb_trans (gb_trans G1.out (gb_drew _ _)) g2)) | (go_at_call 11; refine (K2.out _).mono ?_; rintro e w3 ⟨rfl, g3⟩; have kk3 : w3.cell? ⟨w.heap.size, 0, none⟩ = some (.int .i64 2) := g3.cell kk0 (by simp); have kk4 : w3.cell? ⟨w.heap.size, 1, none⟩ = some (.int .i64 1) := g3.cell kk1 (by simp); have kk5 : w3.cell? ⟨w.heap.size, 2, none⟩ = some (.int .i64 14) := g3.cell kk2 (by simp); have G3 := Lib.hid (gb_trans G2.out g3)) | (go_at_call 21; refine (K3.out _).mono ?_; rintro e w4 ⟨rfl, rfl⟩))
  go_wp2
  go_ret2
  exact ⟨by rw [← cat_ex]; rfl, G3.out⟩

theorem awake_calls (w : World) : Calls Tryd.prog 13 #[] w fun e w' => e = .returned (.bool true) ∧ w.grownBy w' none := by
  have K := Lib.hid (fun w => text_ex w)
  go_enter Tryd.func13, Tryd.ntmps13
  go_wp2_with fail
  refine (K.out _).mono ?_
  rintro e w1 ⟨rfl, g1⟩
  have G1 := Lib.hid g1
  clear g1
  go_wp2
  go_ret
  exact ⟨rfl, G1.out⟩

end Go.Proofs.YtdcmbjhjfdjdhaaDoor.Fa
