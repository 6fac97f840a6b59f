/- Layer 24: the document's Read (written by wip/gen/id6.py). -/
import Derived.Test.YtajbpcaghmcplaaId5
import Derived.Test.YtajbpcaghmcplaaId6
namespace Go.Proofs.Ytajbpcaghmcplaa.Id
open Go.ChangeShapes Go.WideShapes Go.ChangeAt Go.RowKit
open Go.Proofs.Ytajbpcaghmcplaa.Le Go.Proofs.Ytajbpcaghmcplaa.Sr Go.Proofs.Ytajbpcaghmcplaa.Dh
set_option linter.unusedVariables false

/-- The result's block, the directory's. -/
structure Ri (W : World) (D : Nat) (B : Array Value) (w : World) : Prop where
  r : w.heap[W.heap.size]? = some (.cells #[.bool false, .int .i64 0, .int .i64 0, .int .i64 0, .int .i64 0, .int .i64 0, .int .i64 0, .int .i64 0, .int .i64 0, .int .i64 0, .int .i64 0] 43 (0, 0))
  d : w.heap[D]? = some (.cells B 43 (0, 0))
  lt : W.heap.size < D
  g : W.grownBy w none
theorem Ri.gb {W w w' : World} {D : Nat} {B : Array Value} (h : Ri W D B w) (g : w.grownBy w' none) : Ri W D B w' := ⟨old0 g h.r (blk_lt h.r) (by simp), old0 g h.d (blk_lt h.d) (by simp), h.lt, gb_trans h.g g⟩
def rB (cu : Bool) (c r w h a b s p : Nat) : Array Value := #[.bool cu, .int .i64 (c : Nat), .int .i64 (r : Nat), .int .i64 (w : Nat), .int .i64 (h : Nat), .int .i64 (a : Nat), .int .i64 (b : Nat), .int .i64 (s : Nat), .int .i64 (p : Nat), .int .i64 0, .int .i64 0]
theorem Ri.best {W w : World} {D : Nat} {cu : Bool} {c r wx hx ax bx sx px : Nat} (h : Ri W D (rB cu c r wx hx ax bx sx px) w) (i w1 h1 a1 b1 s1 p1 : Nat) : Ri W D (rB cu c i w1 h1 a1 b1 s1 p1) (((((((w.setCell ⟨D, 2, none⟩ (.int .i64 (i : Nat))).setCell ⟨D, 3, none⟩ (.int .i64 (w1 : Nat))).setCell ⟨D, 4, none⟩ (.int .i64 (h1 : Nat))).setCell ⟨D, 5, none⟩ (.int .i64 (a1 : Nat))).setCell ⟨D, 6, none⟩ (.int .i64 (b1 : Nat))).setCell ⟨D, 7, none⟩ (.int .i64 (s1 : Nat))).setCell ⟨D, 8, none⟩ (.int .i64 (p1 : Nat))) := by
  have q1 := h.lt
  have r0 := h.r
  have t0 := h.g
  have d0 := h.d
  have r1 := blk_other (c := D) (o := 2) (v := .int .i64 (i : Nat)) r0 (by omega)
  have r2 := blk_other (c := D) (o := 3) (v := .int .i64 (w1 : Nat)) r1 (by omega)
  have r3 := blk_other (c := D) (o := 4) (v := .int .i64 (h1 : Nat)) r2 (by omega)
  have r4 := blk_other (c := D) (o := 5) (v := .int .i64 (a1 : Nat)) r3 (by omega)
  have r5 := blk_other (c := D) (o := 6) (v := .int .i64 (b1 : Nat)) r4 (by omega)
  have r6 := blk_other (c := D) (o := 7) (v := .int .i64 (s1 : Nat)) r5 (by omega)
  have r7 := blk_other (c := D) (o := 8) (v := .int .i64 (p1 : Nat)) r6 (by omega)
  have t1 := gb_own t0 (by omega) (gb_set _ D 2 (.int .i64 (i : Nat)))
  have t2 := gb_own t1 (by omega) (gb_set _ D 3 (.int .i64 (w1 : Nat)))
  have t3 := gb_own t2 (by omega) (gb_set _ D 4 (.int .i64 (h1 : Nat)))
  have t4 := gb_own t3 (by omega) (gb_set _ D 5 (.int .i64 (a1 : Nat)))
  have t5 := gb_own t4 (by omega) (gb_set _ D 6 (.int .i64 (b1 : Nat)))
  have t6 := gb_own t5 (by omega) (gb_set _ D 7 (.int .i64 (s1 : Nat)))
  have t7 := gb_own t6 (by omega) (gb_set _ D 8 (.int .i64 (p1 : Nat)))
  have d1 : (w.setCell ⟨D, 2, none⟩ (.int .i64 (i : Nat))).heap[D]? = some (.cells (rB cu c i wx hx ax bx sx px) 43 (0, 0)) := blk_set d0 2 (.int .i64 (i : Nat))
  have d2 : ((w.setCell ⟨D, 2, none⟩ (.int .i64 (i : Nat))).setCell ⟨D, 3, none⟩ (.int .i64 (w1 : Nat))).heap[D]? = some (.cells (rB cu c i w1 hx ax bx sx px) 43 (0, 0)) := blk_set d1 3 (.int .i64 (w1 : Nat))
  have d3 : (((w.setCell ⟨D, 2, none⟩ (.int .i64 (i : Nat))).setCell ⟨D, 3, none⟩ (.int .i64 (w1 : Nat))).setCell ⟨D, 4, none⟩ (.int .i64 (h1 : Nat))).heap[D]? = some (.cells (rB cu c i w1 h1 ax bx sx px) 43 (0, 0)) := blk_set d2 4 (.int .i64 (h1 : Nat))
  have d4 : ((((w.setCell ⟨D, 2, none⟩ (.int .i64 (i : Nat))).setCell ⟨D, 3, none⟩ (.int .i64 (w1 : Nat))).setCell ⟨D, 4, none⟩ (.int .i64 (h1 : Nat))).setCell ⟨D, 5, none⟩ (.int .i64 (a1 : Nat))).heap[D]? = some (.cells (rB cu c i w1 h1 a1 bx sx px) 43 (0, 0)) := blk_set d3 5 (.int .i64 (a1 : Nat))
  have d5 : (((((w.setCell ⟨D, 2, none⟩ (.int .i64 (i : Nat))).setCell ⟨D, 3, none⟩ (.int .i64 (w1 : Nat))).setCell ⟨D, 4, none⟩ (.int .i64 (h1 : Nat))).setCell ⟨D, 5, none⟩ (.int .i64 (a1 : Nat))).setCell ⟨D, 6, none⟩ (.int .i64 (b1 : Nat))).heap[D]? = some (.cells (rB cu c i w1 h1 a1 b1 sx px) 43 (0, 0)) := blk_set d4 6 (.int .i64 (b1 : Nat))
  have d6 : ((((((w.setCell ⟨D, 2, none⟩ (.int .i64 (i : Nat))).setCell ⟨D, 3, none⟩ (.int .i64 (w1 : Nat))).setCell ⟨D, 4, none⟩ (.int .i64 (h1 : Nat))).setCell ⟨D, 5, none⟩ (.int .i64 (a1 : Nat))).setCell ⟨D, 6, none⟩ (.int .i64 (b1 : Nat))).setCell ⟨D, 7, none⟩ (.int .i64 (s1 : Nat))).heap[D]? = some (.cells (rB cu c i w1 h1 a1 b1 s1 px) 43 (0, 0)) := blk_set d5 7 (.int .i64 (s1 : Nat))
  have d7 : (((((((w.setCell ⟨D, 2, none⟩ (.int .i64 (i : Nat))).setCell ⟨D, 3, none⟩ (.int .i64 (w1 : Nat))).setCell ⟨D, 4, none⟩ (.int .i64 (h1 : Nat))).setCell ⟨D, 5, none⟩ (.int .i64 (a1 : Nat))).setCell ⟨D, 6, none⟩ (.int .i64 (b1 : Nat))).setCell ⟨D, 7, none⟩ (.int .i64 (s1 : Nat))).setCell ⟨D, 8, none⟩ (.int .i64 (p1 : Nat))).heap[D]? = some (.cells (rB cu c i w1 h1 a1 b1 s1 p1) 43 (0, 0)) := blk_set d6 8 (.int .i64 (p1 : Nat))
  exact ⟨r7, d7, q1, t7⟩

theorem bt_gt (cu : Bool) (A b A' b' : Int) (h : A' < A) : btB cu A b A' b' = true := by
  unfold btB
  rw [if_pos (by omega)]
  exact decide_eq_true h
theorem bt_lt (cu : Bool) (A b A' b' : Int) (h : A < A') : btB cu A b A' b' = false := by
  unfold btB
  rw [if_pos (by omega)]
  exact decide_eq_false (by omega)
theorem bt_cur (A b b' : Int) : btB true A b A b' = false := by
  unfold btB
  rw [if_neg (by simp)]
  rfl
theorem bt_bits (A b b' : Int) : btB false A b A b' = decide (b' < b) := by
  unfold btB
  rw [if_neg (by simp)]
  rfl

theorem gb11 {W w : World} {X : Nat} (g : W.grownBy w none) (hX : W.heap.size ≤ X) (v0 v1 v2 v3 v4 v5 v6 v7 v8 v9 v10 : Value) : W.grownBy (((((((((((w.setCell ⟨X, 0, none⟩ v0).setCell ⟨X, 1, none⟩ v1).setCell ⟨X, 2, none⟩ v2).setCell ⟨X, 3, none⟩ v3).setCell ⟨X, 4, none⟩ v4).setCell ⟨X, 5, none⟩ v5).setCell ⟨X, 6, none⟩ v6).setCell ⟨X, 7, none⟩ v7).setCell ⟨X, 8, none⟩ v8).setCell ⟨X, 9, none⟩ v9).setCell ⟨X, 10, none⟩ v10) none := by
  have g0 : W.grownBy (w.setCell ⟨X, 0, none⟩ v0) none := gb_own g hX (gb_set _ X 0 v0)
  have g1 : W.grownBy ((w.setCell ⟨X, 0, none⟩ v0).setCell ⟨X, 1, none⟩ v1) none := gb_own g0 hX (gb_set _ X 1 v1)
  have g2 : W.grownBy (((w.setCell ⟨X, 0, none⟩ v0).setCell ⟨X, 1, none⟩ v1).setCell ⟨X, 2, none⟩ v2) none := gb_own g1 hX (gb_set _ X 2 v2)
  have g3 : W.grownBy ((((w.setCell ⟨X, 0, none⟩ v0).setCell ⟨X, 1, none⟩ v1).setCell ⟨X, 2, none⟩ v2).setCell ⟨X, 3, none⟩ v3) none := gb_own g2 hX (gb_set _ X 3 v3)
  have g4 : W.grownBy (((((w.setCell ⟨X, 0, none⟩ v0).setCell ⟨X, 1, none⟩ v1).setCell ⟨X, 2, none⟩ v2).setCell ⟨X, 3, none⟩ v3).setCell ⟨X, 4, none⟩ v4) none := gb_own g3 hX (gb_set _ X 4 v4)
  have g5 : W.grownBy ((((((w.setCell ⟨X, 0, none⟩ v0).setCell ⟨X, 1, none⟩ v1).setCell ⟨X, 2, none⟩ v2).setCell ⟨X, 3, none⟩ v3).setCell ⟨X, 4, none⟩ v4).setCell ⟨X, 5, none⟩ v5) none := gb_own g4 hX (gb_set _ X 5 v5)
  have g6 : W.grownBy (((((((w.setCell ⟨X, 0, none⟩ v0).setCell ⟨X, 1, none⟩ v1).setCell ⟨X, 2, none⟩ v2).setCell ⟨X, 3, none⟩ v3).setCell ⟨X, 4, none⟩ v4).setCell ⟨X, 5, none⟩ v5).setCell ⟨X, 6, none⟩ v6) none := gb_own g5 hX (gb_set _ X 6 v6)
  have g7 : W.grownBy ((((((((w.setCell ⟨X, 0, none⟩ v0).setCell ⟨X, 1, none⟩ v1).setCell ⟨X, 2, none⟩ v2).setCell ⟨X, 3, none⟩ v3).setCell ⟨X, 4, none⟩ v4).setCell ⟨X, 5, none⟩ v5).setCell ⟨X, 6, none⟩ v6).setCell ⟨X, 7, none⟩ v7) none := gb_own g6 hX (gb_set _ X 7 v7)
  have g8 : W.grownBy (((((((((w.setCell ⟨X, 0, none⟩ v0).setCell ⟨X, 1, none⟩ v1).setCell ⟨X, 2, none⟩ v2).setCell ⟨X, 3, none⟩ v3).setCell ⟨X, 4, none⟩ v4).setCell ⟨X, 5, none⟩ v5).setCell ⟨X, 6, none⟩ v6).setCell ⟨X, 7, none⟩ v7).setCell ⟨X, 8, none⟩ v8) none := gb_own g7 hX (gb_set _ X 8 v8)
  have g9 : W.grownBy ((((((((((w.setCell ⟨X, 0, none⟩ v0).setCell ⟨X, 1, none⟩ v1).setCell ⟨X, 2, none⟩ v2).setCell ⟨X, 3, none⟩ v3).setCell ⟨X, 4, none⟩ v4).setCell ⟨X, 5, none⟩ v5).setCell ⟨X, 6, none⟩ v6).setCell ⟨X, 7, none⟩ v7).setCell ⟨X, 8, none⟩ v8).setCell ⟨X, 9, none⟩ v9) none := gb_own g8 hX (gb_set _ X 9 v9)
  have g10 : W.grownBy (((((((((((w.setCell ⟨X, 0, none⟩ v0).setCell ⟨X, 1, none⟩ v1).setCell ⟨X, 2, none⟩ v2).setCell ⟨X, 3, none⟩ v3).setCell ⟨X, 4, none⟩ v4).setCell ⟨X, 5, none⟩ v5).setCell ⟨X, 6, none⟩ v6).setCell ⟨X, 7, none⟩ v7).setCell ⟨X, 8, none⟩ v8).setCell ⟨X, 9, none⟩ v9).setCell ⟨X, 10, none⟩ v10) none := gb_own g9 hX (gb_set _ X 10 v10)
  exact g10

set_option maxRecDepth 100000 in
set_option maxHeartbeats 16000000 in
theorem rread_short (T : ByteArray) (hbg : T.size ≤ 4611686018427387904) (h : T.size < 6) (W : World) :
    Calls Try.prog 11 #[.string T] W fun e w' => e = .returned (.agg (rdV false 0 0 0 0 0 0 0 0 1 (T.size : Nat))) ∧ W.grownBy w' none := by
  unfold rdV
  go_enter Try.func11, Try.ntmps11
  go_upto_region 1 with fail
  have R0 := blk_at (w := W) (o := .cells #[.bool false, .int .i64 0, .int .i64 0, .int .i64 0, .int .i64 0, .int .i64 0, .int .i64 0, .int .i64 0, .int .i64 0, .int .i64 0, .int .i64 0] 43)
  have G0 := World.grownBy_alloc W (.cells #[.bool false, .int .i64 0, .int .i64 0, .int .i64 0, .int .i64 0, .int .i64 0, .int .i64 0, .int .i64 0, .int .i64 0, .int .i64 0, .int .i64 0] 43) none
  generalize W.alloc (.cells #[.bool false, .int .i64 0, .int .i64 0, .int .i64 0, .int .i64 0, .int .i64 0, .int .i64 0, .int .i64 0, .int .i64 0, .int .i64 0, .int .i64 0] 43) = w0 at R0 G0 ⊢
  have HR0 := Lib.hid R0
  have HG0 := Lib.hid G0
  clear R0 G0
  go_wp2_with fail
  refine (rbad_calls 1 ((T.size : Nat) : Int) _).mono ?_
  rintro e w9 ⟨rfl, g9⟩
  have R9 := old0 g9 HR0.out (blk_lt HR0.out) (by simp)
  have r0 := blk_cell R9 0
  have rz0 := blk_free R9 0
  have r1 := blk_cell R9 1
  have rz1 := blk_free R9 1
  have r2 := blk_cell R9 2
  have rz2 := blk_free R9 2
  have r3 := blk_cell R9 3
  have rz3 := blk_free R9 3
  have r4 := blk_cell R9 4
  have rz4 := blk_free R9 4
  have r5 := blk_cell R9 5
  have rz5 := blk_free R9 5
  have r6 := blk_cell R9 6
  have rz6 := blk_free R9 6
  have r7 := blk_cell R9 7
  have rz7 := blk_free R9 7
  have r8 := blk_cell R9 8
  have rz8 := blk_free R9 8
  have r9 := blk_cell R9 9
  have rz9 := blk_free R9 9
  have r10 := blk_cell R9 10
  have rz10 := blk_free R9 10
  simp only [List.getElem?_toArray, List.getElem?_cons_succ, List.getElem?_cons_zero] at r0 r1 r2 r3 r4 r5 r6 r7 r8 r9 r10
  have rl := blk_lt R9
  have G9 := Lib.hid (gb_trans HG0.out g9)
  unfold rdV
  clear g9 R9
  go_wp2
  refine bodyPost_ret (v := .agg #[.bool false, .int .i64 0, .int .i64 0, .int .i64 0, .int .i64 0, .int .i64 0, .int .i64 0, .int .i64 0, .int .i64 0, .int .i64 1, .int .i64 ((T.size : Nat) : Int)]) (by simp only [results, Try.results11]; go_simp) rfl ⟨rfl, ?_⟩
  exact gb11 G9.out (Nat.le_refl _) _ _ _ _ _ _ _ _ _ _ _

set_option maxRecDepth 100000 in
set_option maxHeartbeats 16000000 in
theorem rread_none (T : ByteArray) (hbg : T.size ≤ 4611686018427387904) (h : 6 ≤ T.size) (hw : w2 T 0 ≠ 0) (W : World) :
    Calls Try.prog 11 #[.string T] W fun e w' => e = .returned (.agg (rdV false 0 0 0 0 0 0 0 0 2 0)) ∧ W.grownBy w' none := by
  unfold rdV
  have l0 : 0 < T.size := by omega
  have l1 : 1 < T.size := by omega
  have i0 : (0 : Int) < (T.size : Int) := by omega
  have i1 : (1 : Int) < (T.size : Int) := by omega
  have j0 : (T[0]'l0).toNat = bn T 0 := bn_at T 0 l0
  have j1 : (T[1]'l1).toNat = bn T 1 := bn_at T 1 l1
  have KT := fun u => le2_is T 2 (by omega) u
  have KC := fun u => le2_is T 4 (by omega) u
  have s1 : ∀ w, (Instr.slice 9 (.string T) (some (.int .i64 2)) (some (.int .i64 4)) none).run Try.prog w = .ok (.string (T.extract 2 (2 + 2))) w := fun w => cut_at T 2 2 (by omega) w
  have s2 : ∀ w, (Instr.slice 9 (.string T) (some (.int .i64 4)) (some (.int .i64 6)) none).run Try.prog w = .ok (.string (T.extract 4 (4 + 2))) w := fun w => cut_at T 4 2 (by omega) w
  have hsz : ¬ (T.size : Int) < 6 := by omega
  obtain ⟨n0, e0⟩ : ∃ n, bn T 0 = n := ⟨_, rfl⟩
  obtain ⟨n1, e1⟩ : ∃ n, bn T 1 = n := ⟨_, rfl⟩
  rw [e0] at j0
  rw [e1] at j1
  unfold w2 at hw
  rw [Nat.zero_add, e0, e1] at hw
  clear KT KC s1 s2 e0 e1 h
  by_cases h0 : n0 = 0
  · have h1 : ¬ n1 = 0 := by omega
    subst h0
    have f1 : (((n1 : Nat) : Int) != 0) = true := by rw [bne_iff_ne]; omega
    have f1' : ¬ ((n1 : Nat) : Int) = 0 := by omega
    clear hw
    go_enter Try.func11, Try.ntmps11
    go_upto_region 3 with fail
    have R0 := blk_at (w := W) (o := .cells #[.bool false, .int .i64 0, .int .i64 0, .int .i64 0, .int .i64 0, .int .i64 0, .int .i64 0, .int .i64 0, .int .i64 0, .int .i64 0, .int .i64 0] 43)
    have G0 := World.grownBy_alloc W (.cells #[.bool false, .int .i64 0, .int .i64 0, .int .i64 0, .int .i64 0, .int .i64 0, .int .i64 0, .int .i64 0, .int .i64 0, .int .i64 0, .int .i64 0] 43) none
    generalize W.alloc (.cells #[.bool false, .int .i64 0, .int .i64 0, .int .i64 0, .int .i64 0, .int .i64 0, .int .i64 0, .int .i64 0, .int .i64 0, .int .i64 0, .int .i64 0] 43) = w0 at R0 G0 ⊢
    have HR0 := Lib.hid R0
    have HG0 := Lib.hid G0
    clear R0 G0
    go_wp2_with fail
    refine (rbad_calls 2 0 _).mono ?_
    rintro e w9 ⟨rfl, g9⟩
    have R9 := old0 g9 HR0.out (blk_lt HR0.out) (by simp)
    have r0 := blk_cell R9 0
    have rz0 := blk_free R9 0
    have r1 := blk_cell R9 1
    have rz1 := blk_free R9 1
    have r2 := blk_cell R9 2
    have rz2 := blk_free R9 2
    have r3 := blk_cell R9 3
    have rz3 := blk_free R9 3
    have r4 := blk_cell R9 4
    have rz4 := blk_free R9 4
    have r5 := blk_cell R9 5
    have rz5 := blk_free R9 5
    have r6 := blk_cell R9 6
    have rz6 := blk_free R9 6
    have r7 := blk_cell R9 7
    have rz7 := blk_free R9 7
    have r8 := blk_cell R9 8
    have rz8 := blk_free R9 8
    have r9 := blk_cell R9 9
    have rz9 := blk_free R9 9
    have r10 := blk_cell R9 10
    have rz10 := blk_free R9 10
    simp only [List.getElem?_toArray, List.getElem?_cons_succ, List.getElem?_cons_zero] at r0 r1 r2 r3 r4 r5 r6 r7 r8 r9 r10
    have rl := blk_lt R9
    have G9 := Lib.hid (gb_trans HG0.out g9)
    unfold rdV
    clear g9 R9
    go_wp2
    refine bodyPost_ret (v := .agg #[.bool false, .int .i64 0, .int .i64 0, .int .i64 0, .int .i64 0, .int .i64 0, .int .i64 0, .int .i64 0, .int .i64 0, .int .i64 2, .int .i64 0]) (by simp only [results, Try.results11]; go_simp) rfl ⟨rfl, ?_⟩
    exact gb11 G9.out (Nat.le_refl _) _ _ _ _ _ _ _ _ _ _ _
  · have f1 : (((n0 : Nat) : Int) != 0) = true := by rw [bne_iff_ne]; omega
    have f1' : ¬ ((n0 : Nat) : Int) = 0 := by omega
    clear hw
    go_enter Try.func11, Try.ntmps11
    go_upto_region 3 with fail
    have R0 := blk_at (w := W) (o := .cells #[.bool false, .int .i64 0, .int .i64 0, .int .i64 0, .int .i64 0, .int .i64 0, .int .i64 0, .int .i64 0, .int .i64 0, .int .i64 0, .int .i64 0] 43)
    have G0 := World.grownBy_alloc W (.cells #[.bool false, .int .i64 0, .int .i64 0, .int .i64 0, .int .i64 0, .int .i64 0, .int .i64 0, .int .i64 0, .int .i64 0, .int .i64 0, .int .i64 0] 43) none
    generalize W.alloc (.cells #[.bool false, .int .i64 0, .int .i64 0, .int .i64 0, .int .i64 0, .int .i64 0, .int .i64 0, .int .i64 0, .int .i64 0, .int .i64 0, .int .i64 0] 43) = w0 at R0 G0 ⊢
    have HR0 := Lib.hid R0
    have HG0 := Lib.hid G0
    clear R0 G0
    go_wp2_with fail
    refine (rbad_calls 2 0 _).mono ?_
    rintro e w9 ⟨rfl, g9⟩
    have R9 := old0 g9 HR0.out (blk_lt HR0.out) (by simp)
    have r0 := blk_cell R9 0
    have rz0 := blk_free R9 0
    have r1 := blk_cell R9 1
    have rz1 := blk_free R9 1
    have r2 := blk_cell R9 2
    have rz2 := blk_free R9 2
    have r3 := blk_cell R9 3
    have rz3 := blk_free R9 3
    have r4 := blk_cell R9 4
    have rz4 := blk_free R9 4
    have r5 := blk_cell R9 5
    have rz5 := blk_free R9 5
    have r6 := blk_cell R9 6
    have rz6 := blk_free R9 6
    have r7 := blk_cell R9 7
    have rz7 := blk_free R9 7
    have r8 := blk_cell R9 8
    have rz8 := blk_free R9 8
    have r9 := blk_cell R9 9
    have rz9 := blk_free R9 9
    have r10 := blk_cell R9 10
    have rz10 := blk_free R9 10
    simp only [List.getElem?_toArray, List.getElem?_cons_succ, List.getElem?_cons_zero] at r0 r1 r2 r3 r4 r5 r6 r7 r8 r9 r10
    have rl := blk_lt R9
    have G9 := Lib.hid (gb_trans HG0.out g9)
    unfold rdV
    clear g9 R9
    go_wp2
    refine bodyPost_ret (v := .agg #[.bool false, .int .i64 0, .int .i64 0, .int .i64 0, .int .i64 0, .int .i64 0, .int .i64 0, .int .i64 0, .int .i64 0, .int .i64 2, .int .i64 0]) (by simp only [results, Try.results11]; go_simp) rfl ⟨rfl, ?_⟩
    exact gb11 G9.out (Nat.le_refl _) _ _ _ _ _ _ _ _ _ _ _

set_option maxRecDepth 100000 in
set_option maxHeartbeats 16000000 in
theorem rread_type (T : ByteArray) (hbg : T.size ≤ 4611686018427387904) (h : 6 ≤ T.size) (hw : w2 T 0 = 0) (ht : w2 T 2 ≠ 1 ∧ w2 T 2 ≠ 2) (W : World) :
    Calls Try.prog 11 #[.string T] W fun e w' => e = .returned (.agg (rdV false 0 0 0 0 0 0 0 0 2 2)) ∧ W.grownBy w' none := by
  unfold rdV
  have l0 : 0 < T.size := by omega
  have l1 : 1 < T.size := by omega
  have i0 : (0 : Int) < (T.size : Int) := by omega
  have i1 : (1 : Int) < (T.size : Int) := by omega
  have j0 : (T[0]'l0).toNat = bn T 0 := bn_at T 0 l0
  have j1 : (T[1]'l1).toNat = bn T 1 := bn_at T 1 l1
  have KT := fun u => le2_is T 2 (by omega) u
  have KC := fun u => le2_is T 4 (by omega) u
  have s1 : ∀ w, (Instr.slice 9 (.string T) (some (.int .i64 2)) (some (.int .i64 4)) none).run Try.prog w = .ok (.string (T.extract 2 (2 + 2))) w := fun w => cut_at T 2 2 (by omega) w
  have s2 : ∀ w, (Instr.slice 9 (.string T) (some (.int .i64 4)) (some (.int .i64 6)) none).run Try.prog w = .ok (.string (T.extract 4 (4 + 2))) w := fun w => cut_at T 4 2 (by omega) w
  have hsz : ¬ (T.size : Int) < 6 := by omega
  obtain ⟨n0, e0⟩ : ∃ n, bn T 0 = n := ⟨_, rfl⟩
  obtain ⟨n1, e1⟩ : ∃ n, bn T 1 = n := ⟨_, rfl⟩
  rw [e0] at j0
  rw [e1] at j1
  have z0 : n0 = 0 := by unfold w2 at hw; rw [Nat.zero_add, e0, e1] at hw; omega
  have z1 : n1 = 0 := by unfold w2 at hw; rw [Nat.zero_add, e0, e1] at hw; omega
  subst z0 z1
  clear hw e0 e1
  obtain ⟨t, et⟩ : ∃ n, w2 T 2 = n := ⟨_, rfl⟩
  rw [et] at KT ht
  have f1 : (((t : Nat) : Int) != 1) = true := by rw [bne_iff_ne]; omega
  have f1' : ¬ ((t : Nat) : Int) = 1 := by omega
  have f2 : (((t : Nat) : Int) != 2) = true := by rw [bne_iff_ne]; omega
  have f2' : ¬ ((t : Nat) : Int) = 2 := by omega
  have KT := Lib.hid KT
  clear KC et ht h
  go_enter Try.func11, Try.ntmps11
  go_upto_region 3 with fail
  have R0 := blk_at (w := W) (o := .cells #[.bool false, .int .i64 0, .int .i64 0, .int .i64 0, .int .i64 0, .int .i64 0, .int .i64 0, .int .i64 0, .int .i64 0, .int .i64 0, .int .i64 0] 43)
  have G0 := World.grownBy_alloc W (.cells #[.bool false, .int .i64 0, .int .i64 0, .int .i64 0, .int .i64 0, .int .i64 0, .int .i64 0, .int .i64 0, .int .i64 0, .int .i64 0, .int .i64 0] 43) none
  generalize W.alloc (.cells #[.bool false, .int .i64 0, .int .i64 0, .int .i64 0, .int .i64 0, .int .i64 0, .int .i64 0, .int .i64 0, .int .i64 0, .int .i64 0, .int .i64 0] 43) = w0 at R0 G0 ⊢
  have HR0 := Lib.hid R0
  have HG0 := Lib.hid G0
  clear R0 G0
  go_wp2_with fail
  refine (KT.out _).mono ?_
  rintro e w' ⟨rfl, rfl⟩
  go_wp2_with fail
  refine (rbad_calls 2 2 _).mono ?_
  rintro e w9 ⟨rfl, g9⟩
  have R9 := old0 g9 HR0.out (blk_lt HR0.out) (by simp)
  have r0 := blk_cell R9 0
  have rz0 := blk_free R9 0
  have r1 := blk_cell R9 1
  have rz1 := blk_free R9 1
  have r2 := blk_cell R9 2
  have rz2 := blk_free R9 2
  have r3 := blk_cell R9 3
  have rz3 := blk_free R9 3
  have r4 := blk_cell R9 4
  have rz4 := blk_free R9 4
  have r5 := blk_cell R9 5
  have rz5 := blk_free R9 5
  have r6 := blk_cell R9 6
  have rz6 := blk_free R9 6
  have r7 := blk_cell R9 7
  have rz7 := blk_free R9 7
  have r8 := blk_cell R9 8
  have rz8 := blk_free R9 8
  have r9 := blk_cell R9 9
  have rz9 := blk_free R9 9
  have r10 := blk_cell R9 10
  have rz10 := blk_free R9 10
  simp only [List.getElem?_toArray, List.getElem?_cons_succ, List.getElem?_cons_zero] at r0 r1 r2 r3 r4 r5 r6 r7 r8 r9 r10
  have rl := blk_lt R9
  have G9 := Lib.hid (gb_trans HG0.out g9)
  unfold rdV
  clear g9 R9
  go_wp2
  refine bodyPost_ret (v := .agg #[.bool false, .int .i64 0, .int .i64 0, .int .i64 0, .int .i64 0, .int .i64 0, .int .i64 0, .int .i64 0, .int .i64 0, .int .i64 2, .int .i64 2]) (by simp only [results, Try.results11]; go_simp) rfl ⟨rfl, ?_⟩
  exact gb11 G9.out (Nat.le_refl _) _ _ _ _ _ _ _ _ _ _ _

set_option maxRecDepth 100000 in
set_option maxHeartbeats 16000000 in
theorem rread_count (T : ByteArray) (hbg : T.size ≤ 4611686018427387904) (h : 6 ≤ T.size) (hw : w2 T 0 = 0) (ht : w2 T 2 = 1 ∨ w2 T 2 = 2) (hc : w2 T 4 = 0) (W : World) :
    Calls Try.prog 11 #[.string T] W fun e w' => e = .returned (.agg (rdV false 0 0 0 0 0 0 0 0 2 4)) ∧ W.grownBy w' none := by
  unfold rdV
  have l0 : 0 < T.size := by omega
  have l1 : 1 < T.size := by omega
  have i0 : (0 : Int) < (T.size : Int) := by omega
  have i1 : (1 : Int) < (T.size : Int) := by omega
  have j0 : (T[0]'l0).toNat = bn T 0 := bn_at T 0 l0
  have j1 : (T[1]'l1).toNat = bn T 1 := bn_at T 1 l1
  have KT := fun u => le2_is T 2 (by omega) u
  have KC := fun u => le2_is T 4 (by omega) u
  have s1 : ∀ w, (Instr.slice 9 (.string T) (some (.int .i64 2)) (some (.int .i64 4)) none).run Try.prog w = .ok (.string (T.extract 2 (2 + 2))) w := fun w => cut_at T 2 2 (by omega) w
  have s2 : ∀ w, (Instr.slice 9 (.string T) (some (.int .i64 4)) (some (.int .i64 6)) none).run Try.prog w = .ok (.string (T.extract 4 (4 + 2))) w := fun w => cut_at T 4 2 (by omega) w
  have hsz : ¬ (T.size : Int) < 6 := by omega
  obtain ⟨n0, e0⟩ : ∃ n, bn T 0 = n := ⟨_, rfl⟩
  obtain ⟨n1, e1⟩ : ∃ n, bn T 1 = n := ⟨_, rfl⟩
  rw [e0] at j0
  rw [e1] at j1
  have z0 : n0 = 0 := by unfold w2 at hw; rw [Nat.zero_add, e0, e1] at hw; omega
  have z1 : n1 = 0 := by unfold w2 at hw; rw [Nat.zero_add, e0, e1] at hw; omega
  subst z0 z1
  clear hw e0 e1
  rw [hc] at KC
  have KC := Lib.hid KC
  rcases ht with ht | ht
  · rw [ht] at KT
    have KT := Lib.hid KT
    clear ht hc h
    go_enter Try.func11, Try.ntmps11
    go_upto_region 3 with fail
    have R0 := blk_at (w := W) (o := .cells #[.bool false, .int .i64 0, .int .i64 0, .int .i64 0, .int .i64 0, .int .i64 0, .int .i64 0, .int .i64 0, .int .i64 0, .int .i64 0, .int .i64 0] 43)
    have G0 := World.grownBy_alloc W (.cells #[.bool false, .int .i64 0, .int .i64 0, .int .i64 0, .int .i64 0, .int .i64 0, .int .i64 0, .int .i64 0, .int .i64 0, .int .i64 0, .int .i64 0] 43) none
    generalize W.alloc (.cells #[.bool false, .int .i64 0, .int .i64 0, .int .i64 0, .int .i64 0, .int .i64 0, .int .i64 0, .int .i64 0, .int .i64 0, .int .i64 0, .int .i64 0] 43) = w0 at R0 G0 ⊢
    have HR0 := Lib.hid R0
    have HG0 := Lib.hid G0
    clear R0 G0
    go_wp2_with fail
    refine (KT.out _).mono ?_
    rintro e w' ⟨rfl, rfl⟩
    go_wp2_with fail
    refine (KC.out _).mono ?_
    rintro e w' ⟨rfl, rfl⟩
    go_upto_region 9 with fail
    have HR1 := Lib.hid (blk_al HR0.out (.cells #[.bool false, .int .i64 0, .int .i64 0, .int .i64 0, .int .i64 0, .int .i64 0, .int .i64 0, .int .i64 0, .int .i64 0, .int .i64 0, .int .i64 0] 43))
    have HG1 := Lib.hid (gb_trans HG0.out (World.grownBy_alloc w0 (.cells #[.bool false, .int .i64 0, .int .i64 0, .int .i64 0, .int .i64 0, .int .i64 0, .int .i64 0, .int .i64 0, .int .i64 0, .int .i64 0, .int .i64 0] 43) none))
    have d1 := blk_cell (blk_new w0 _ 43 : (w0.alloc (.cells #[.bool false, .int .i64 0, .int .i64 0, .int .i64 0, .int .i64 0, .int .i64 0, .int .i64 0, .int .i64 0, .int .i64 0, .int .i64 0, .int .i64 0] 43)).heap[w0.heap.size]? = _) 1
    simp only [List.getElem?_toArray, List.getElem?_cons_succ, List.getElem?_cons_zero] at d1
    generalize w0.alloc _ = w1 at HR1 HG1 d1 ⊢
    go_wp2_with fail
    refine (rbad_calls 2 4 _).mono ?_
    rintro e w9 ⟨rfl, g9⟩
    have R9 := old0 g9 HR1.out (blk_lt HR1.out) (by simp)
    have r0 := blk_cell R9 0
    have rz0 := blk_free R9 0
    have r1 := blk_cell R9 1
    have rz1 := blk_free R9 1
    have r2 := blk_cell R9 2
    have rz2 := blk_free R9 2
    have r3 := blk_cell R9 3
    have rz3 := blk_free R9 3
    have r4 := blk_cell R9 4
    have rz4 := blk_free R9 4
    have r5 := blk_cell R9 5
    have rz5 := blk_free R9 5
    have r6 := blk_cell R9 6
    have rz6 := blk_free R9 6
    have r7 := blk_cell R9 7
    have rz7 := blk_free R9 7
    have r8 := blk_cell R9 8
    have rz8 := blk_free R9 8
    have r9 := blk_cell R9 9
    have rz9 := blk_free R9 9
    have r10 := blk_cell R9 10
    have rz10 := blk_free R9 10
    simp only [List.getElem?_toArray, List.getElem?_cons_succ, List.getElem?_cons_zero] at r0 r1 r2 r3 r4 r5 r6 r7 r8 r9 r10
    have rl := blk_lt R9
    have G9 := Lib.hid (gb_trans HG1.out g9)
    unfold rdV
    clear g9 R9
    go_wp2
    refine bodyPost_ret (v := .agg #[.bool false, .int .i64 0, .int .i64 0, .int .i64 0, .int .i64 0, .int .i64 0, .int .i64 0, .int .i64 0, .int .i64 0, .int .i64 2, .int .i64 4]) (by simp only [results, Try.results11]; go_simp) rfl ⟨rfl, ?_⟩
    exact gb11 G9.out (Nat.le_refl _) _ _ _ _ _ _ _ _ _ _ _
  · rw [ht] at KT
    have KT := Lib.hid KT
    clear ht hc h
    go_enter Try.func11, Try.ntmps11
    go_upto_region 3 with fail
    have R0 := blk_at (w := W) (o := .cells #[.bool false, .int .i64 0, .int .i64 0, .int .i64 0, .int .i64 0, .int .i64 0, .int .i64 0, .int .i64 0, .int .i64 0, .int .i64 0, .int .i64 0] 43)
    have G0 := World.grownBy_alloc W (.cells #[.bool false, .int .i64 0, .int .i64 0, .int .i64 0, .int .i64 0, .int .i64 0, .int .i64 0, .int .i64 0, .int .i64 0, .int .i64 0, .int .i64 0] 43) none
    generalize W.alloc (.cells #[.bool false, .int .i64 0, .int .i64 0, .int .i64 0, .int .i64 0, .int .i64 0, .int .i64 0, .int .i64 0, .int .i64 0, .int .i64 0, .int .i64 0] 43) = w0 at R0 G0 ⊢
    have HR0 := Lib.hid R0
    have HG0 := Lib.hid G0
    clear R0 G0
    go_wp2_with fail
    refine (KT.out _).mono ?_
    rintro e w' ⟨rfl, rfl⟩
    go_wp2_with fail
    refine (KC.out _).mono ?_
    rintro e w' ⟨rfl, rfl⟩
    go_upto_region 9 with fail
    have HR1 := Lib.hid (blk_al HR0.out (.cells #[.bool true, .int .i64 0, .int .i64 0, .int .i64 0, .int .i64 0, .int .i64 0, .int .i64 0, .int .i64 0, .int .i64 0, .int .i64 0, .int .i64 0] 43))
    have HG1 := Lib.hid (gb_trans HG0.out (World.grownBy_alloc w0 (.cells #[.bool true, .int .i64 0, .int .i64 0, .int .i64 0, .int .i64 0, .int .i64 0, .int .i64 0, .int .i64 0, .int .i64 0, .int .i64 0, .int .i64 0] 43) none))
    have d1 := blk_cell (blk_new w0 _ 43 : (w0.alloc (.cells #[.bool true, .int .i64 0, .int .i64 0, .int .i64 0, .int .i64 0, .int .i64 0, .int .i64 0, .int .i64 0, .int .i64 0, .int .i64 0, .int .i64 0] 43)).heap[w0.heap.size]? = _) 1
    simp only [List.getElem?_toArray, List.getElem?_cons_succ, List.getElem?_cons_zero] at d1
    generalize w0.alloc _ = w1 at HR1 HG1 d1 ⊢
    go_wp2_with fail
    refine (rbad_calls 2 4 _).mono ?_
    rintro e w9 ⟨rfl, g9⟩
    have R9 := old0 g9 HR1.out (blk_lt HR1.out) (by simp)
    have r0 := blk_cell R9 0
    have rz0 := blk_free R9 0
    have r1 := blk_cell R9 1
    have rz1 := blk_free R9 1
    have r2 := blk_cell R9 2
    have rz2 := blk_free R9 2
    have r3 := blk_cell R9 3
    have rz3 := blk_free R9 3
    have r4 := blk_cell R9 4
    have rz4 := blk_free R9 4
    have r5 := blk_cell R9 5
    have rz5 := blk_free R9 5
    have r6 := blk_cell R9 6
    have rz6 := blk_free R9 6
    have r7 := blk_cell R9 7
    have rz7 := blk_free R9 7
    have r8 := blk_cell R9 8
    have rz8 := blk_free R9 8
    have r9 := blk_cell R9 9
    have rz9 := blk_free R9 9
    have r10 := blk_cell R9 10
    have rz10 := blk_free R9 10
    simp only [List.getElem?_toArray, List.getElem?_cons_succ, List.getElem?_cons_zero] at r0 r1 r2 r3 r4 r5 r6 r7 r8 r9 r10
    have rl := blk_lt R9
    have G9 := Lib.hid (gb_trans HG1.out g9)
    unfold rdV
    clear g9 R9
    go_wp2
    refine bodyPost_ret (v := .agg #[.bool false, .int .i64 0, .int .i64 0, .int .i64 0, .int .i64 0, .int .i64 0, .int .i64 0, .int .i64 0, .int .i64 0, .int .i64 2, .int .i64 4]) (by simp only [results, Try.results11]; go_simp) rfl ⟨rfl, ?_⟩
    exact gb11 G9.out (Nat.le_refl _) _ _ _ _ _ _ _ _ _ _ _


end Go.Proofs.Ytajbpcaghmcplaa.Id
