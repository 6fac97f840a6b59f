/- Package fault: the text of a fault. -/
import Derived.Test.YtdcmbjhjfdjdhaaDoorFau7
namespace Go.Proofs.YtdcmbjhjfdjdhaaDoor.Fa
open Go.ChangeShapes Go.WideShapes Go.ChangeAt Go.RowKit
open Go.Proofs.YtdcmbjhjfdjdhaaDoor.Le
set_option linter.unusedVariables false

theorem kw_size (k : Int) : (kw k).size ≤ 11 := by
  unfold kw
  repeat' split
  all_goals decide
theorem fw_size (x : Int) : (fw x).size ≤ 7 := by
  unfold fw
  repeat' split
  all_goals decide

set_option maxRecDepth 100000 in
/-- Text, of a fault that can't be. -/
theorem text_wrong (k x a : Int) (w : World) (hr : rightB k x a = false) : Calls Tryd.prog 6 #[.agg #[.int .i64 k, .int .i64 x, .int .i64 a]] w
    fun e w' => e = .returned (.tuple #[.string ⟨#[]⟩, .int .i64 1]) ∧ w.grownBy w' none := by
  have K0 := right_calls k x a
  rw [hr] at K0
  have K0 := Lib.hid K0
  clear hr
  go_enter Tryd.func6, Tryd.ntmps6
  go_wp2_with fail
  refine (K0.out _).mono ?_
  rintro e w1 ⟨rfl, g1⟩
  have G1 := Lib.hid (gb_trans (World.grownBy_alloc _ _ _) g1)
  clear g1 K0
  go_wp2
  go_ret2
  exact ⟨rfl, G1.out⟩

set_option maxRecDepth 100000 in
set_option maxHeartbeats 4000000 in
theorem text_go (k x a : Int) (w : World) (A B N : ByteArray) (hA : A.size ≤ 11) (hB : B.size ≤ 7) (hN : N.size ≤ 21)
    (K0 : ∀ w, Calls Tryd.prog 7 #[.agg #[.int .i64 k, .int .i64 x, .int .i64 a]] w fun e w' => e = .returned (.bool true) ∧ w.grownBy w' none)
    (K1 : ∀ w, Calls Tryd.prog 9 #[.int .i64 k] w fun e w' => e = .returned (.string A) ∧ w.grownBy w' none)
    (K2 : ∀ w, Calls Tryd.prog 11 #[.int .i64 x] w fun e w' => e = .returned (.string B) ∧ w.grownBy w' none)
    (K3 : ∀ w', w.grownBy w' none → Calls Tryd.prog 21 #[.int .i64 a] w' fun e w2 => e = .returned (.string N) ∧ w'.grownBy w2 none) :
    Calls Tryd.prog 6 #[.agg #[.int .i64 k, .int .i64 x, .int .i64 a]] w
      fun e w' => e = .returned (.tuple #[.string (A ++ ⟨#[32]⟩ ++ B ++ ⟨#[32]⟩ ++ N), .int .i64 0]) ∧ w.grownBy w' none := by
  have K0 := Lib.hid K0
  have K1 := Lib.hid K1
  have K2 := Lib.hid K2
  have K3 := Lib.hid K3
  have s1 : ¬ 9223372036854775807 < A.size + 1 := by omega
  have s2 : ¬ 9223372036854775807 < A.size + 1 + B.size := by omega
  have s3 : ¬ 9223372036854775807 < A.size + 1 + B.size + 1 := by omega
  have s4 : ¬ 9223372036854775807 < A.size + 1 + B.size + 1 + N.size := by omega
  go_enter Tryd.func6, Tryd.ntmps6
  go_wp2_with fail
  refine (K0.out _).mono ?_
  rintro e w1 ⟨rfl, g1⟩
  have b0 := old1 g1 (by simp)
  have c0 := blk_cell b0 0
  have c1 := blk_cell b0 1
  have c2 := blk_cell b0 2
  simp only [List.getElem?_toArray, List.getElem?_cons_succ, List.getElem?_cons_zero] at c0 c1 c2
  have G1 := Lib.hid (gb_trans (World.grownBy_alloc _ _ _) g1)
  clear b0 g1 K0
  go_wp2_with fail
  go_region_held3 (fun w' => w'.cell? ⟨w.heap.size, 0, none⟩ = some (.int .i64 k) ∧ w'.cell? ⟨w.heap.size, 1, none⟩ = some (.int .i64 x) ∧ w'.cell? ⟨w.heap.size, 2, none⟩ = some (.int .i64 a)) (go_keep)
    (first | (go_at_call 9; refine (K1.out _).mono ?_; rintro e w2 ⟨rfl, g2⟩; have kk0 : w2.cell? ⟨w.heap.size, 0, none⟩ = some (.int .i64 k) := g2.cell c0 (by simp); have kk1 : w2.cell? ⟨w.heap.size, 1, none⟩ = some (.int .i64 x) := g2.cell c1 (by simp); have kk2 : w2.cell? ⟨w.heap.size, 2, none⟩ = some (.int .i64 a) := g2.cell c2 (by simp); have G2 := Lib.hid (gb_trans (gb_trans G1.out (gb_drew _ _)) g2)) | (go_at_call 11; refine (K2.out _).mono ?_; rintro e w3 ⟨rfl, g3⟩; have kk3 : w3.cell? ⟨w.heap.size, 0, none⟩ = some (.int .i64 k) := g3.cell kk0 (by simp); have kk4 : w3.cell? ⟨w.heap.size, 1, none⟩ = some (.int .i64 x) := g3.cell kk1 (by simp); have kk5 : w3.cell? ⟨w.heap.size, 2, none⟩ = some (.int .i64 a) := g3.cell kk2 (by simp); have G3 := Lib.hid (gb_trans G2.out g3)) | (go_at_call 21; refine (K3.out _ G3.out).mono ?_; rintro e w4 ⟨rfl, g4⟩; have kk6 : w4.cell? ⟨w.heap.size, 0, none⟩ = some (.int .i64 k) := g4.cell kk3 (by simp); have kk7 : w4.cell? ⟨w.heap.size, 1, none⟩ = some (.int .i64 x) := g4.cell kk4 (by simp); have kk8 : w4.cell? ⟨w.heap.size, 2, none⟩ = some (.int .i64 a) := g4.cell kk5 (by simp); have G4 := Lib.hid (gb_trans G3.out g4)))
  all_goals
    go_wp2
    go_ret2
    exact ⟨rfl, G4.out⟩

end Go.Proofs.YtdcmbjhjfdjdhaaDoor.Fa
