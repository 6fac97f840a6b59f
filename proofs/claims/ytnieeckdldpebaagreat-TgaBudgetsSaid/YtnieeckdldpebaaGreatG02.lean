/- Texts of one kind, one behind the other: Tga6. -/
import Derived.Deep.Cut
import Derived.Test.YtnieeckdldpebaaGreatG22
/- Layer 16: the document's Read of a head, walked (written by tga6.py). -/
namespace Go.Proofs.YtnieeckdldpebaaGreat.Tg
open Go.ChangeShapes Go.WideShapes Go.ChangeAt Go.RowKit
open Go.Proofs.YtnieeckdldpebaaGreat.Le Go.Proofs.YtnieeckdldpebaaGreat.Sr
set_option linter.unusedVariables false

theorem bad_calls (k p : Int) (W : World) : Calls Tryz.prog 46 #[.int .i64 k, .int .i64 p] W fun e w' => e = .returned (.agg #[.int .i64 0, .int .i64 0, .int .i64 0, .int .i64 0, .int .i64 0, .int .i64 0, .int .i64 0, .int .i64 0, .int .i64 0, .int .i64 0, .bool false, .bool false, .int .i64 k, .int .i64 p]) ∧ W.grownBy w' none := by
  go_enter Tryz.func46, Tryz.ntmps46
  go_wp2
  refine bodyPost_ret (v := .agg #[.int .i64 0, .int .i64 0, .int .i64 0, .int .i64 0, .int .i64 0, .int .i64 0, .int .i64 0, .int .i64 0, .int .i64 0, .int .i64 0, .bool false, .bool false, .int .i64 k, .int .i64 p]) (by simp only [results, Tryz.results46]; go_simp) rfl ⟨rfl, World.grownBy_alloc _ _ _⟩

theorem le_wd (s : ByteArray) (p : Nat) (h : p + 2 ≤ s.size) : Sr.numV false (s.extract p (p + 2)) = wd s p := by
  have hl : (s.extract p (p + 2)).data.toList = [s.data.toList.getD p 0, s.data.toList.getD (p + 1) 0] := by
    rw [Lib.extract_data]
    have h2 : p < s.data.toList.length := by rw [← Lib.size_eq]; omega
    have h3 : p + 1 < s.data.toList.length := by rw [← Lib.size_eq]; omega
    rw [show p + 2 - p = 2 from by omega]
    rw [List.getD_eq_getElem?_getD, List.getD_eq_getElem?_getD, List.getElem?_eq_getElem h2, List.getElem?_eq_getElem h3]
    rw [List.drop_eq_getElem_cons h2, List.drop_eq_getElem_cons h3]
    rfl
  unfold Sr.numV wd bn
  rw [hl]
  simp [acc, ordd]
  omega
theorem le_is (s : ByteArray) (p : Nat) (h : p + 2 ≤ s.size) (u : World) :
    Calls Tryz.prog 47 #[.string (s.extract p (p + 2))] u fun e w' => e = .returned (.int .i64 (wd s p : Nat)) ∧ u = w' := by
  have h2 := rle_calls (s.extract p (p + 2)) u (by rw [part_size s p 2 h]; omega)
  rw [le_wd s p h] at h2
  exact h2

/-- What the document tells of a head. -/
def rGood (s : ByteArray) : Array Value := #[.int .i64 (bn s 0), .int .i64 (if mpB s then 1 else 0), .int .i64 (bn s 2), .int .i64 (fst s), .int .i64 (cnt s), .int .i64 (ent s), .int .i64 (wd s 12), .int .i64 (wd s 14), .int .i64 (bn s 16), .int .i64 (alp s), .bool (lft s), .bool (tpp s), .int .i64 0, .int .i64 0]
def rBad (k p : Int) : Array Value := #[.int .i64 0, .int .i64 0, .int .i64 0, .int .i64 0, .int .i64 0, .int .i64 0, .int .i64 0, .int .i64 0, .int .i64 0, .int .i64 0, .bool false, .bool false, .int .i64 k, .int .i64 p]
def rV (s : ByteArray) (K : Nat) : Array Value := if K = 12 then rGood s else rBad (kdK K) (plK K)

theorem at_bx {w : World} {o : Obj} {b : Nat} (h : w.heap.size = b) : (w.alloc o).drew.heap[b]? = some o := h ▸ blk_at
structure RI (W : World) (b : Nat) (v : Array Value) (w : World) : Prop where
  res : w.heap[W.heap.size]? = some (.cells #[.int .i64 0, .int .i64 0, .int .i64 0, .int .i64 0, .int .i64 0, .int .i64 0, .int .i64 0, .int .i64 0, .int .i64 0, .int .i64 0, .bool false, .bool false, .int .i64 0, .int .i64 0] 57 (0, 0))
  hd : w.heap[b]? = some (.cells v 57 (0, 0))
  eb : b = W.heap.size + 1
  gb : W.grownBy w none


set_option maxRecDepth 100000 in
theorem read_one (s : ByteArray) (W : World) (h18 : 18 ≤ s.size) (hm : s.size ≤ 9223372036854775807) (h1 : 1 < bn s 1) :
    Calls Tryz.prog 22 #[.string s] W fun e w' => e = .returned (.agg #[.int .i64 0, .int .i64 0, .int .i64 0, .int .i64 0, .int .i64 0, .int .i64 0, .int .i64 0, .int .i64 0, .int .i64 0, .int .i64 0, .bool false, .bool false, .int .i64 2, .int .i64 1]) ∧ W.grownBy w' none := by
  obtain ⟨x1, e1⟩ : ∃ x, bn s 1 = x := ⟨_, rfl⟩
  have b1 := bn_lt s 1
  rw [e1] at h1 b1
  have g1 : ((s[1]'(by omega)).toNat : Int) = x1 := bn_cell s 1 (by omega) e1
  have i1 : (1 : Int) < (s.size : Int) := by omega
  have i2 : (2 : Int) < (s.size : Int) := by omega
  have i18 : ¬ (s.size : Int) < 18 := by omega
  have d1 : (1 : Int) < x1 := by omega
  have d1' : decide ((1 : Int) < x1) = true := decide_eq_true d1
  have KB := Lib.hid (fun u => bad_calls 2 1 u)
  clear e1
  go_enter Tryz.func22, Tryz.ntmps22
  go_upto_region 1 with fail
  have hR : (W.alloc (.cells #[.int .i64 0, .int .i64 0, .int .i64 0, .int .i64 0, .int .i64 0, .int .i64 0, .int .i64 0, .int .i64 0, .int .i64 0, .int .i64 0, .bool false, .bool false, .int .i64 0, .int .i64 0] 57)).heap[W.heap.size]? = some (.cells #[.int .i64 0, .int .i64 0, .int .i64 0, .int .i64 0, .int .i64 0, .int .i64 0, .int .i64 0, .int .i64 0, .int .i64 0, .int .i64 0, .bool false, .bool false, .int .i64 0, .int .i64 0] 57 (0, 0)) := blk_at
  have hG := World.grownBy_alloc W (.cells #[.int .i64 0, .int .i64 0, .int .i64 0, .int .i64 0, .int .i64 0, .int .i64 0, .int .i64 0, .int .i64 0, .int .i64 0, .int .i64 0, .bool false, .bool false, .int .i64 0, .int .i64 0] 57) none
  generalize W.alloc (.cells #[.int .i64 0, .int .i64 0, .int .i64 0, .int .i64 0, .int .i64 0, .int .i64 0, .int .i64 0, .int .i64 0, .int .i64 0, .int .i64 0, .bool false, .bool false, .int .i64 0, .int .i64 0] 57) = w1 at hR hG ⊢
  have HR := Lib.hid hR
  have HG := Lib.hid hG
  clear hR hG
  go_wp2_with fail
  refine (KB.out _).mono ?_
  rintro e w9 ⟨rfl, g9⟩
  have B9 := old0 g9 HR.out (blk_lt HR.out) (by simp)
  have r0 : w9.cell? ⟨W.heap.size, 0, none⟩ = some (.int .i64 0) := blk_cell B9 0
  have rf0 := blk_free B9 0
  have r1 : w9.cell? ⟨W.heap.size, 1, none⟩ = some (.int .i64 0) := blk_cell B9 1
  have rf1 := blk_free B9 1
  have r2 : w9.cell? ⟨W.heap.size, 2, none⟩ = some (.int .i64 0) := blk_cell B9 2
  have rf2 := blk_free B9 2
  have r3 : w9.cell? ⟨W.heap.size, 3, none⟩ = some (.int .i64 0) := blk_cell B9 3
  have rf3 := blk_free B9 3
  have r4 : w9.cell? ⟨W.heap.size, 4, none⟩ = some (.int .i64 0) := blk_cell B9 4
  have rf4 := blk_free B9 4
  have r5 : w9.cell? ⟨W.heap.size, 5, none⟩ = some (.int .i64 0) := blk_cell B9 5
  have rf5 := blk_free B9 5
  have r6 : w9.cell? ⟨W.heap.size, 6, none⟩ = some (.int .i64 0) := blk_cell B9 6
  have rf6 := blk_free B9 6
  have r7 : w9.cell? ⟨W.heap.size, 7, none⟩ = some (.int .i64 0) := blk_cell B9 7
  have rf7 := blk_free B9 7
  have r8 : w9.cell? ⟨W.heap.size, 8, none⟩ = some (.int .i64 0) := blk_cell B9 8
  have rf8 := blk_free B9 8
  have r9 : w9.cell? ⟨W.heap.size, 9, none⟩ = some (.int .i64 0) := blk_cell B9 9
  have rf9 := blk_free B9 9
  have r10 : w9.cell? ⟨W.heap.size, 10, none⟩ = some (.bool false) := blk_cell B9 10
  have rf10 := blk_free B9 10
  have r11 : w9.cell? ⟨W.heap.size, 11, none⟩ = some (.bool false) := blk_cell B9 11
  have rf11 := blk_free B9 11
  have r12 : w9.cell? ⟨W.heap.size, 12, none⟩ = some (.int .i64 0) := blk_cell B9 12
  have rf12 := blk_free B9 12
  have r13 : w9.cell? ⟨W.heap.size, 13, none⟩ = some (.int .i64 0) := blk_cell B9 13
  have rf13 := blk_free B9 13
  have hlr := blk_lt B9
  have G9 := Lib.hid (gb_trans HG.out g9)
  clear g9 B9 KB
  go_wp2
  refine bodyPost_ret (v := .agg #[.int .i64 0, .int .i64 0, .int .i64 0, .int .i64 0, .int .i64 0, .int .i64 0, .int .i64 0, .int .i64 0, .int .i64 0, .int .i64 0, .bool false, .bool false, .int .i64 2, .int .i64 1]) (by simp only [results, Tryz.results22]; go_simp) rfl ⟨rfl, ?_⟩
  exact gb_own (gb_own (gb_own (gb_own (gb_own (gb_own (gb_own (gb_own (gb_own (gb_own (gb_own (gb_own (gb_own (gb_own (G9.out) (Nat.le_refl _) (gb_set _ _ _ _)) (Nat.le_refl _) (gb_set _ _ _ _)) (Nat.le_refl _) (gb_set _ _ _ _)) (Nat.le_refl _) (gb_set _ _ _ _)) (Nat.le_refl _) (gb_set _ _ _ _)) (Nat.le_refl _) (gb_set _ _ _ _)) (Nat.le_refl _) (gb_set _ _ _ _)) (Nat.le_refl _) (gb_set _ _ _ _)) (Nat.le_refl _) (gb_set _ _ _ _)) (Nat.le_refl _) (gb_set _ _ _ _)) (Nat.le_refl _) (gb_set _ _ _ _)) (Nat.le_refl _) (gb_set _ _ _ _)) (Nat.le_refl _) (gb_set _ _ _ _)) (Nat.le_refl _) (gb_set _ _ _ _)
set_option maxRecDepth 100000 in
theorem read_short (s : ByteArray) (W : World) (h18 : s.size < 18) :
    Calls Tryz.prog 22 #[.string s] W fun e w' => e = .returned (.agg (rBad 1 s.size)) ∧ W.grownBy w' none := by
  have i18 : (s.size : Int) < 18 := by omega
  have KB := Lib.hid (fun u => bad_calls 1 s.size u)
  unfold rBad
  go_enter Tryz.func22, Tryz.ntmps22
  go_upto_region 1 with fail
  have hR : (W.alloc (.cells #[.int .i64 0, .int .i64 0, .int .i64 0, .int .i64 0, .int .i64 0, .int .i64 0, .int .i64 0, .int .i64 0, .int .i64 0, .int .i64 0, .bool false, .bool false, .int .i64 0, .int .i64 0] 57)).heap[W.heap.size]? = some (.cells #[.int .i64 0, .int .i64 0, .int .i64 0, .int .i64 0, .int .i64 0, .int .i64 0, .int .i64 0, .int .i64 0, .int .i64 0, .int .i64 0, .bool false, .bool false, .int .i64 0, .int .i64 0] 57 (0, 0)) := blk_at
  have hG := World.grownBy_alloc W (.cells #[.int .i64 0, .int .i64 0, .int .i64 0, .int .i64 0, .int .i64 0, .int .i64 0, .int .i64 0, .int .i64 0, .int .i64 0, .int .i64 0, .bool false, .bool false, .int .i64 0, .int .i64 0] 57) none
  generalize W.alloc (.cells #[.int .i64 0, .int .i64 0, .int .i64 0, .int .i64 0, .int .i64 0, .int .i64 0, .int .i64 0, .int .i64 0, .int .i64 0, .int .i64 0, .bool false, .bool false, .int .i64 0, .int .i64 0] 57) = w1 at hR hG ⊢
  have HR := Lib.hid hR
  have HG := Lib.hid hG
  clear hR hG
  go_wp2_with fail
  refine (KB.out _).mono ?_
  rintro e w9 ⟨rfl, g9⟩
  have B9 := old0 g9 HR.out (blk_lt HR.out) (by simp)
  have r0 : w9.cell? ⟨W.heap.size, 0, none⟩ = some (.int .i64 0) := blk_cell B9 0
  have rf0 := blk_free B9 0
  have r1 : w9.cell? ⟨W.heap.size, 1, none⟩ = some (.int .i64 0) := blk_cell B9 1
  have rf1 := blk_free B9 1
  have r2 : w9.cell? ⟨W.heap.size, 2, none⟩ = some (.int .i64 0) := blk_cell B9 2
  have rf2 := blk_free B9 2
  have r3 : w9.cell? ⟨W.heap.size, 3, none⟩ = some (.int .i64 0) := blk_cell B9 3
  have rf3 := blk_free B9 3
  have r4 : w9.cell? ⟨W.heap.size, 4, none⟩ = some (.int .i64 0) := blk_cell B9 4
  have rf4 := blk_free B9 4
  have r5 : w9.cell? ⟨W.heap.size, 5, none⟩ = some (.int .i64 0) := blk_cell B9 5
  have rf5 := blk_free B9 5
  have r6 : w9.cell? ⟨W.heap.size, 6, none⟩ = some (.int .i64 0) := blk_cell B9 6
  have rf6 := blk_free B9 6
  have r7 : w9.cell? ⟨W.heap.size, 7, none⟩ = some (.int .i64 0) := blk_cell B9 7
  have rf7 := blk_free B9 7
  have r8 : w9.cell? ⟨W.heap.size, 8, none⟩ = some (.int .i64 0) := blk_cell B9 8
  have rf8 := blk_free B9 8
  have r9 : w9.cell? ⟨W.heap.size, 9, none⟩ = some (.int .i64 0) := blk_cell B9 9
  have rf9 := blk_free B9 9
  have r10 : w9.cell? ⟨W.heap.size, 10, none⟩ = some (.bool false) := blk_cell B9 10
  have rf10 := blk_free B9 10
  have r11 : w9.cell? ⟨W.heap.size, 11, none⟩ = some (.bool false) := blk_cell B9 11
  have rf11 := blk_free B9 11
  have r12 : w9.cell? ⟨W.heap.size, 12, none⟩ = some (.int .i64 0) := blk_cell B9 12
  have rf12 := blk_free B9 12
  have r13 : w9.cell? ⟨W.heap.size, 13, none⟩ = some (.int .i64 0) := blk_cell B9 13
  have rf13 := blk_free B9 13
  have hlr := blk_lt B9
  have G9 := Lib.hid (gb_trans HG.out g9)
  clear g9 B9 KB
  go_wp2
  refine bodyPost_ret (v := .agg #[.int .i64 0, .int .i64 0, .int .i64 0, .int .i64 0, .int .i64 0, .int .i64 0, .int .i64 0, .int .i64 0, .int .i64 0, .int .i64 0, .bool false, .bool false, .int .i64 1, .int .i64 s.size]) (by simp only [results, Tryz.results22]; go_simp) rfl ⟨rfl, ?_⟩
  exact gb_own (gb_own (gb_own (gb_own (gb_own (gb_own (gb_own (gb_own (gb_own (gb_own (gb_own (gb_own (gb_own (gb_own (G9.out) (Nat.le_refl _) (gb_set _ _ _ _)) (Nat.le_refl _) (gb_set _ _ _ _)) (Nat.le_refl _) (gb_set _ _ _ _)) (Nat.le_refl _) (gb_set _ _ _ _)) (Nat.le_refl _) (gb_set _ _ _ _)) (Nat.le_refl _) (gb_set _ _ _ _)) (Nat.le_refl _) (gb_set _ _ _ _)) (Nat.le_refl _) (gb_set _ _ _ _)) (Nat.le_refl _) (gb_set _ _ _ _)) (Nat.le_refl _) (gb_set _ _ _ _)) (Nat.le_refl _) (gb_set _ _ _ _)) (Nat.le_refl _) (gb_set _ _ _ _)) (Nat.le_refl _) (gb_set _ _ _ _)) (Nat.le_refl _) (gb_set _ _ _ _)


end Go.Proofs.YtnieeckdldpebaaGreat.Tg
