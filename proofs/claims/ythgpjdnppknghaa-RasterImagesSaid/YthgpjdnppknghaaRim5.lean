/- Images: a pixel, of the document. -/
import Derived.Test.YthgpjdnppknghaaRim4
import Derived.BigRegion
namespace Go.Proofs.Ythgpjdnppknghaa.Ra
open Go.ChangeShapes Go.WideShapes Go.ChangeAt Go.RowKit
open Go.Proofs.Ythgpjdnppknghaa.Le Go.Proofs.Ythgpjdnppknghaa.Bu Go.Proofs.Ythgpjdnppknghaa.Nu
set_option linter.unusedVariables false

set_option maxRecDepth 100000 in
set_option maxHeartbeats 1000000 in
theorem rpixel_calls (X Y x y p : Nat) (b off c : Nat) (S : ByteArray) (w : World) (hx : x < X) (hy : y < Y) (hX : X ≤ 16384) (hY : Y ≤ 16384) (hp : y * X + x = p) (hs : S.size ≤ 2000) (hsz : S.size = 4 * (X * Y)) (hc : S.size ≤ c) (hB : Lib.Bytes w b off S) :
    Calls Try.prog 33 #[.agg #[.int .i64 X, .int .i64 Y, .slice (some ⟨b, off, none⟩) S.size c], .int .i64 x, .int .i64 y] w
      fun e w' => e = .returned (.agg #[.int .u8 (bt S (4 * p)), .int .u8 (bt S (4 * p + 1)), .int .u8 (bt S (4 * p + 2)), .int .u8 (bt S (4 * p + 3))]) ∧ w.grownBy w' none := by
  have hle : 4 * p + 4 ≤ S.size := by rw [hsz]; exact p_lt hx hy hp
  have h1 : (y : Int) * (X : Int) + (x : Int) = (p : Int) := by rw [← hp, Int.natCast_add, Int.natCast_mul]
  have hle2 : y * X ≤ 16384 * 16384 := Nat.mul_le_mul (by omega) (by omega)
  have p0 : (0 : Int) ≤ (y : Int) * (X : Int) := Int.mul_nonneg (by omega) (by omega)
  have p1 : (y : Int) * (X : Int) ≤ 268435456 := by rw [← Int.natCast_mul]; omega
  have q0 := (hB (4 * p) (by omega)).trans (by rw [bt_at])
  have q1 := (hB (4 * p + 1) (by omega)).trans (by rw [bt_at])
  have q2 := (hB (4 * p + 2) (by omega)).trans (by rw [bt_at])
  have q3 := (hB (4 * p + 3) (by omega)).trans (by rw [bt_at])
  obtain ⟨n, hn⟩ : ∃ n, S.size = n := ⟨_, rfl⟩
  rw [hn] at hle hs hc ⊢
  have h4 : 4 * (p : Int) = ((4 * p : Nat) : Int) := by omega
  obtain ⟨i, hi⟩ : ∃ i, 4 * p = i := ⟨_, rfl⟩
  simp only [hi] at q0 q1 q2 q3 hle h4 ⊢
  have hi1 : i < n := by omega
  have z1 : (0 : Int) ≤ (i : Int) + 1 := by omega
  have z2 : (0 : Int) ≤ (i : Int) + 2 := by omega
  have z3 : (0 : Int) ≤ (i : Int) + 3 := by omega
  have z4 : (i : Int) + 1 < (n : Int) := by omega
  have z5 : (i : Int) + 2 < (n : Int) := by omega
  have z6 : (i : Int) + 3 < (n : Int) := by omega
  have u1 : ((i : Int) + 1).toNat = i + 1 := by omega
  have u2 : ((i : Int) + 2).toNat = i + 2 := by omega
  have u3 : ((i : Int) + 3).toNat = i + 3 := by omega
  have hi2 : i + 1 < n := by omega
  have hi3 : i + 2 < n := by omega
  have hi4 : i + 3 < n := by omega
  obtain ⟨x0, e0⟩ : ∃ z, bt S i = z := ⟨_, rfl⟩
  obtain ⟨x1, e1⟩ : ∃ z, bt S (i + 1) = z := ⟨_, rfl⟩
  obtain ⟨x2, e2⟩ : ∃ z, bt S (i + 2) = z := ⟨_, rfl⟩
  obtain ⟨x3, e3⟩ : ∃ z, bt S (i + 3) = z := ⟨_, rfl⟩
  rw [e0] at q0 ⊢
  rw [e1] at q1 ⊢
  rw [e2] at q2 ⊢
  rw [e3] at q3 ⊢
  have hbl : b < w.heap.size := by
    rcases Nat.lt_or_ge b w.heap.size with h' | h'
    · exact h'
    · simp [World.cell?, Array.getElem?_eq_none h'] at q0
  have Q0 := Lib.hid q0
  have Q1 := Lib.hid q1
  have Q2 := Lib.hid q2
  have Q3 := Lib.hid q3
  clear hp hB hsz hn hi e0 e1 e2 e3 q0 q1 q2 q3 hle2
  go_enter Try.func33, Try.ntmps33
  go_wp2_with fail
  have hbox : ((w.alloc (.cells #[.int .i64 (X : Int), .int .i64 (Y : Int), .slice (some ⟨b, off, none⟩) n c] 48)).alloc (.cells #[.int .u8 0, .int .u8 0, .int .u8 0, .int .u8 0] 50)).heap[w.heap.size]? = some (.cells #[.int .i64 (X : Int), .int .i64 (Y : Int), .slice (some ⟨b, off, none⟩) n c] 48 (0, 0)) := blk_al blk_at _
  have hres : ((w.alloc (.cells #[.int .i64 (X : Int), .int .i64 (Y : Int), .slice (some ⟨b, off, none⟩) n c] 48)).alloc (.cells #[.int .u8 0, .int .u8 0, .int .u8 0, .int .u8 0] 50)).heap[w.heap.size + 1]? = some (.cells #[.int .u8 0, .int .u8 0, .int .u8 0, .int .u8 0] 50 (0, 0)) := by
    rw [← size_alloc w (.cells #[.int .i64 (X : Int), .int .i64 (Y : Int), .slice (some ⟨b, off, none⟩) n c] 48)]
    exact blk_at
  have hg : w.grownBy ((w.alloc (.cells #[.int .i64 (X : Int), .int .i64 (Y : Int), .slice (some ⟨b, off, none⟩) n c] 48)).alloc (.cells #[.int .u8 0, .int .u8 0, .int .u8 0, .int .u8 0] 50)) none := gb_trans (World.grownBy_alloc _ _ _) (World.grownBy_alloc _ _ _)
  generalize (w.alloc (.cells #[.int .i64 (X : Int), .int .i64 (Y : Int), .slice (some ⟨b, off, none⟩) n c] 48)).alloc (.cells #[.int .u8 0, .int .u8 0, .int .u8 0, .int .u8 0] 50) = w1 at hbox hres hg ⊢
  have b2 : w1.cell? ⟨w.heap.size, 2, none⟩ = some (.slice (some ⟨b, off, none⟩) n c) := blk_cell hbox 2
  have r0 : w1.cell? ⟨w.heap.size + 1, 0, none⟩ = some (.int .u8 0) := blk_cell hres 0
  have r1 : w1.cell? ⟨w.heap.size + 1, 1, none⟩ = some (.int .u8 0) := blk_cell hres 1
  have r2 : w1.cell? ⟨w.heap.size + 1, 2, none⟩ = some (.int .u8 0) := blk_cell hres 2
  have r3 : w1.cell? ⟨w.heap.size + 1, 3, none⟩ = some (.int .u8 0) := blk_cell hres 3
  have f0 := blk_free hres 0
  have f1 := blk_free hres 1
  have f2 := blk_free hres 2
  have f3 := blk_free hres 3
  have q0 := hg.cell Q0.out (by simp)
  have q1 := hg.cell Q1.out (by simp)
  have q2 := hg.cell Q2.out (by simp)
  have q3 := hg.cell Q3.out (by simp)
  have HG := Lib.hid hg
  clear hbox hres hg
  go_region
  all_goals
    go_wp2
    refine bodyPost_ret (v := .agg #[.int .u8 x0, .int .u8 x1, .int .u8 x2, .int .u8 x3]) (by simp [results, Try.results33, go_sem, r0, r1, r2, r3]) rfl ⟨rfl, ?_⟩
    exact gb_trans (gb_new (gb_new (gb_new (gb_new HG.out (by omega) (gb_set _ _ _ _)) (by omega) (gb_set _ _ _ _)) (by omega) (gb_set _ _ _ _)) (by omega) (gb_set _ _ _ _)) (gb_drew _ _)

end Go.Proofs.Ythgpjdnppknghaa.Ra
