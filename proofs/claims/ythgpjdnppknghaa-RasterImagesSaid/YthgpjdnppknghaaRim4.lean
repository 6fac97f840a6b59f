/- Images: a pixel, of the code. -/
import Derived.Test.YthgpjdnppknghaaRim3
namespace Go.Proofs.Ythgpjdnppknghaa.Ra
open Go.ChangeShapes Go.WideShapes Go.ChangeAt Go.RowKit
open Go.Proofs.Ythgpjdnppknghaa.Le Go.Proofs.Ythgpjdnppknghaa.Bu Go.Proofs.Ythgpjdnppknghaa.Nu
set_option linter.unusedVariables false

set_option maxRecDepth 100000 in
theorem ipixel_wrong (X Y x y : Int) (a : Option Addr) (n c : Nat) (w : World) (hn : n ≤ 9223372036854775807) (hr : rightB X Y n = false) :
    Calls Try.prog 27 #[.agg #[.int .i64 X, .int .i64 Y, .slice a n c], .int .i64 x, .int .i64 y] w
      fun e w' => e = .returned (.tuple #[.agg #[.int .u8 0, .int .u8 0, .int .u8 0, .int .u8 0], .bool false]) ∧ w.grownBy w' none := by
  have K := fun w => right_calls X Y a n c w hn
  simp only [hr] at K
  have K' := Lib.hid K
  clear K hr
  go_enter Try.func27, Try.ntmps27
  go_wp2_with fail
  have hres : ((w.alloc (.cells #[.int .i64 X, .int .i64 Y, .slice a n c] 48)).alloc (.cells #[.int .u8 0, .int .u8 0, .int .u8 0, .int .u8 0] 50)).heap[w.heap.size + 1]? = some (.cells #[.int .u8 0, .int .u8 0, .int .u8 0, .int .u8 0] 50 (0, 0)) := by
    rw [← size_alloc w (.cells #[.int .i64 X, .int .i64 Y, .slice a n c] 48)]
    exact blk_at
  have HR := Lib.hid hres
  clear hres
  refine (K'.out _).mono ?_
  rintro e w1 ⟨rfl, g1⟩
  have R2 := (g1.block _ (blk_lt HR.out) (by simp)).trans HR.out
  have r0 : w1.cell? ⟨w.heap.size + 1, 0, none⟩ = some (.int .u8 0) := blk_cell R2 0
  have r1 : w1.cell? ⟨w.heap.size + 1, 1, none⟩ = some (.int .u8 0) := blk_cell R2 1
  have r2 : w1.cell? ⟨w.heap.size + 1, 2, none⟩ = some (.int .u8 0) := blk_cell R2 2
  have r3 : w1.cell? ⟨w.heap.size + 1, 3, none⟩ = some (.int .u8 0) := blk_cell R2 3
  have f0 := blk_free R2 0
  have f1 := blk_free R2 1
  have f2 := blk_free R2 2
  have f3 := blk_free R2 3
  have G1 := Lib.hid (gb_trans (gb_trans (World.grownBy_alloc _ _ _) (World.grownBy_alloc _ _ _)) g1)
  clear g1 R2
  go_wp2
  refine bodyPost_ret (v := .tuple #[.agg #[.int .u8 0, .int .u8 0, .int .u8 0, .int .u8 0], .bool false]) (by rw [results_cell_tmp (fn := Try.f27) rfl]; go_simp) rfl ⟨rfl, ?_⟩
  exact gb_new (gb_new (gb_new (gb_new G1.out (by omega) (gb_set _ _ _ _)) (by omega) (gb_set _ _ _ _)) (by omega) (gb_set _ _ _ _)) (by omega) (gb_set _ _ _ _)

set_option maxRecDepth 100000 in
theorem ipixel_no (X Y x y : Int) (a : Option Addr) (n c : Nat) (w : World) (hn : n ≤ 9223372036854775807) (hr : rightB X Y n = true) (hp : badP X Y x y) :
    Calls Try.prog 27 #[.agg #[.int .i64 X, .int .i64 Y, .slice a n c], .int .i64 x, .int .i64 y] w
      fun e w' => e = .returned (.tuple #[.agg #[.int .u8 0, .int .u8 0, .int .u8 0, .int .u8 0], .bool false]) ∧ w.grownBy w' none := by
  have K := fun w => right_calls X Y a n c w hn
  simp only [hr] at K
  have K' := Lib.hid K
  have P := Lib.hid (fun w => place_no X Y x y w hp)
  clear K hr hp
  go_enter Try.func27, Try.ntmps27
  go_wp2_with fail
  have hbox : ((w.alloc (.cells #[.int .i64 X, .int .i64 Y, .slice a n c] 48)).alloc (.cells #[.int .u8 0, .int .u8 0, .int .u8 0, .int .u8 0] 50)).heap[w.heap.size]? = some (.cells #[.int .i64 X, .int .i64 Y, .slice a n c] 48 (0, 0)) := blk_al blk_at _
  have hres : ((w.alloc (.cells #[.int .i64 X, .int .i64 Y, .slice a n c] 48)).alloc (.cells #[.int .u8 0, .int .u8 0, .int .u8 0, .int .u8 0] 50)).heap[w.heap.size + 1]? = some (.cells #[.int .u8 0, .int .u8 0, .int .u8 0, .int .u8 0] 50 (0, 0)) := by
    rw [← size_alloc w (.cells #[.int .i64 X, .int .i64 Y, .slice a n c] 48)]
    exact blk_at
  have HR := Lib.hid hres
  have HB := Lib.hid hbox
  clear hres hbox
  refine (K'.out _).mono ?_
  rintro e w1 ⟨rfl, g1⟩
  have R2 := (g1.block _ (blk_lt HR.out) (by simp)).trans HR.out
  have B2 := (g1.block _ (blk_lt HB.out) (by simp)).trans HB.out
  have b0 : w1.cell? ⟨w.heap.size, 0, none⟩ = some (.int .i64 X) := blk_cell B2 0
  have b1 : w1.cell? ⟨w.heap.size, 1, none⟩ = some (.int .i64 Y) := blk_cell B2 1
  have r0 : w1.cell? ⟨w.heap.size + 1, 0, none⟩ = some (.int .u8 0) := blk_cell R2 0
  have r1 : w1.cell? ⟨w.heap.size + 1, 1, none⟩ = some (.int .u8 0) := blk_cell R2 1
  have r2 : w1.cell? ⟨w.heap.size + 1, 2, none⟩ = some (.int .u8 0) := blk_cell R2 2
  have r3 : w1.cell? ⟨w.heap.size + 1, 3, none⟩ = some (.int .u8 0) := blk_cell R2 3
  have f0 := blk_free R2 0
  have f1 := blk_free R2 1
  have f2 := blk_free R2 2
  have f3 := blk_free R2 3
  have G1 := Lib.hid (gb_trans (gb_trans (World.grownBy_alloc _ _ _) (World.grownBy_alloc _ _ _)) g1)
  clear g1 R2 B2
  go_wp2_with fail
  refine (P.out _).mono ?_
  rintro e w' ⟨rfl, rfl⟩
  go_wp2
  refine bodyPost_ret (v := .tuple #[.agg #[.int .u8 0, .int .u8 0, .int .u8 0, .int .u8 0], .bool false]) (by rw [results_cell_tmp (fn := Try.f27) rfl]; go_simp) rfl ⟨rfl, ?_⟩
  exact gb_new (gb_new (gb_new (gb_new G1.out (by omega) (gb_set _ _ _ _)) (by omega) (gb_set _ _ _ _)) (by omega) (gb_set _ _ _ _)) (by omega) (gb_set _ _ _ _)

theorem bt_at (S : ByteArray) (j : Nat) (h : j < S.size) : ((S[j].toNat : Nat) : Int) = bt S j := by
  unfold bt
  rw [List.getD_eq_getElem?_getD, Go.Proofs.byte_at S j h]
  rfl

set_option maxRecDepth 100000 in
set_option maxHeartbeats 1000000 in
theorem ipixel_yes (X Y x y p : Nat) (b off c : Nat) (S : ByteArray) (w : World) (hx : x < X) (hy : y < Y) (hX : X ≤ 16384) (hY : Y ≤ 16384) (hp : y * X + x = p) (hs : S.size ≤ 2000) (hsz : S.size = 4 * (X * Y)) (hc : S.size ≤ c) (hcm : c ≤ 9223372036854775807) (hB : Lib.Bytes w b off S) (hr : rightB X Y S.size = true) :
    Calls Try.prog 27 #[.agg #[.int .i64 X, .int .i64 Y, .slice (some ⟨b, off, none⟩) S.size c], .int .i64 x, .int .i64 y] w
      fun e w' => e = .returned (.tuple #[.agg #[.int .u8 (bt S (4 * p)), .int .u8 (bt S (4 * p + 1)), .int .u8 (bt S (4 * p + 2)), .int .u8 (bt S (4 * p + 3))], .bool true]) ∧ w.grownBy w' none := by
  have K := fun w => right_calls X Y (some ⟨b, off, none⟩) S.size c w (by omega)
  simp only [hr] at K
  have P := fun w => place_yes X Y x y p w hx hy hX hY hp
  have hle : 4 * p + 4 ≤ S.size := by rw [hsz]; exact p_lt hx hy hp
  have q0 := (hB (4 * p) (by omega)).trans (by rw [bt_at])
  have q1 := (hB (4 * p + 1) (by omega)).trans (by rw [bt_at])
  have q2 := (hB (4 * p + 2) (by omega)).trans (by rw [bt_at])
  have q3 := (hB (4 * p + 3) (by omega)).trans (by rw [bt_at])
  obtain ⟨n, hn⟩ : ∃ n, S.size = n := ⟨_, rfl⟩
  rw [hn] at hle hs hc ⊢
  simp only [hn] at K
  obtain ⟨i, hi⟩ : ∃ i, 4 * p = i := ⟨_, rfl⟩
  simp only [hi] at P q0 q1 q2 q3 hle ⊢
  obtain ⟨x0, e0⟩ : ∃ z, bt S i = z := ⟨_, rfl⟩
  obtain ⟨x1, e1⟩ : ∃ z, bt S (i + 1) = z := ⟨_, rfl⟩
  obtain ⟨x2, e2⟩ : ∃ z, bt S (i + 2) = z := ⟨_, rfl⟩
  obtain ⟨x3, e3⟩ : ∃ z, bt S (i + 3) = z := ⟨_, rfl⟩
  rw [e0] at q0 ⊢
  rw [e1] at q1 ⊢
  rw [e2] at q2 ⊢
  rw [e3] at q3 ⊢
  have Q0 := Lib.hid q0
  have Q1 := Lib.hid q1
  have Q2 := Lib.hid q2
  have Q3 := Lib.hid q3
  have K' := Lib.hid K
  have P' := Lib.hid P
  have hic : i + 4 ≤ c := by omega
  clear K P hr hp hB hsz hn hi e0 e1 e2 e3 q0 q1 q2 q3
  go_enter Try.func27, Try.ntmps27
  go_wp2_with fail
  have hbox : ((w.alloc (.cells #[.int .i64 (X : Int), .int .i64 (Y : Int), .slice (some ⟨b, off, none⟩) n c] 48)).alloc (.cells #[.int .u8 0, .int .u8 0, .int .u8 0, .int .u8 0] 50)).heap[w.heap.size]? = some (.cells #[.int .i64 (X : Int), .int .i64 (Y : Int), .slice (some ⟨b, off, none⟩) n c] 48 (0, 0)) := blk_al blk_at _
  have hres : ((w.alloc (.cells #[.int .i64 (X : Int), .int .i64 (Y : Int), .slice (some ⟨b, off, none⟩) n c] 48)).alloc (.cells #[.int .u8 0, .int .u8 0, .int .u8 0, .int .u8 0] 50)).heap[w.heap.size + 1]? = some (.cells #[.int .u8 0, .int .u8 0, .int .u8 0, .int .u8 0] 50 (0, 0)) := by
    rw [← size_alloc w (.cells #[.int .i64 (X : Int), .int .i64 (Y : Int), .slice (some ⟨b, off, none⟩) n c] 48)]
    exact blk_at
  have HR := Lib.hid hres
  have HB := Lib.hid hbox
  clear hres hbox
  refine (K'.out _).mono ?_
  rintro e w1 ⟨rfl, g1⟩
  have R2 := (g1.block _ (blk_lt HR.out) (by simp)).trans HR.out
  have B2 := (g1.block _ (blk_lt HB.out) (by simp)).trans HB.out
  have b0 : w1.cell? ⟨w.heap.size, 0, none⟩ = some (.int .i64 X) := blk_cell B2 0
  have b1 : w1.cell? ⟨w.heap.size, 1, none⟩ = some (.int .i64 Y) := blk_cell B2 1
  have b2 : w1.cell? ⟨w.heap.size, 2, none⟩ = some (.slice (some ⟨b, off, none⟩) n c) := blk_cell B2 2
  have r0 : w1.cell? ⟨w.heap.size + 1, 0, none⟩ = some (.int .u8 0) := blk_cell R2 0
  have r1 : w1.cell? ⟨w.heap.size + 1, 1, none⟩ = some (.int .u8 0) := blk_cell R2 1
  have r2 : w1.cell? ⟨w.heap.size + 1, 2, none⟩ = some (.int .u8 0) := blk_cell R2 2
  have r3 : w1.cell? ⟨w.heap.size + 1, 3, none⟩ = some (.int .u8 0) := blk_cell R2 3
  have f0 := blk_free R2 0
  have f1 := blk_free R2 1
  have f2 := blk_free R2 2
  have f3 := blk_free R2 3
  have G1 := Lib.hid (gb_trans (gb_trans (World.grownBy_alloc _ _ _) (World.grownBy_alloc _ _ _)) g1)
  have q0 := G1.out.cell Q0.out (by simp)
  have q1 := G1.out.cell Q1.out (by simp)
  have q2 := G1.out.cell Q2.out (by simp)
  have q3 := G1.out.cell Q3.out (by simp)
  rw [← Nat.add_assoc] at q1 q2 q3
  clear g1 R2 B2
  go_wp2_with fail
  refine (P'.out _).mono ?_
  rintro e w' ⟨rfl, rfl⟩
  go_wp2_with fail
  go_region
  all_goals
    go_wp2
    refine bodyPost_ret (v := .tuple #[.agg #[.int .u8 x0, .int .u8 x1, .int .u8 x2, .int .u8 x3], .bool true]) (by rw [results_cell_tmp (fn := Try.f27) rfl]; go_simp) rfl ⟨rfl, ?_⟩
    exact gb_trans (gb_new (gb_new (gb_new (gb_new G1.out (by omega) (gb_set _ _ _ _)) (by omega) (gb_set _ _ _ _)) (by omega) (gb_set _ _ _ _)) (by omega) (gb_set _ _ _ _)) (gb_drew _ _)

end Go.Proofs.Ythgpjdnppknghaa.Ra
