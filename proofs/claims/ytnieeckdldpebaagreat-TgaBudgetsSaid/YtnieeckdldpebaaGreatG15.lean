/- Texts of one kind, one behind the other: Pal3. -/
import Derived.BigQuiet
import Derived.Laws.ResultCell
import Derived.Lib.RabinKarpLaws
import Derived.Test.YtnieeckdldpebaaGreatG01
import Derived.Test.YtnieeckdldpebaaGreatG11
/- Layer 10: the document's Entry, walked. -/
namespace Go.Proofs.YtnieeckdldpebaaGreat.Pa
open Go.ChangeShapes Go.WideShapes Go.ChangeAt Go.RowKit
open Go.Proofs.YtnieeckdldpebaaGreat.Sc Go.Proofs.YtnieeckdldpebaaGreat.Le
set_option linter.unusedVariables false

set_option maxRecDepth 100000 in
theorem rentry_two (s : ByteArray) (c0 c1 : Int) (W : World) (hs : 2 ≤ s.size) (hm : s.size ≤ 9223372036854775807) (h0 : ((s[0]'(by omega)).toNat : Int) = c0) (h1 : ((s[1]'(by omega)).toNat : Int) = c1) :
    Calls Tryz.prog 105 #[.string s, .int .i64 2] W
      fun e w' => e = .returned (.agg #[.int .u8 (near ((c0 + 256 * c1) / 1024 % 32) 31), .int .u8 (near ((c0 + 256 * c1) / 32 % 32) 31), .int .u8 (near ((c0 + 256 * c1) % 32) 31), .int .u8 255]) ∧ W.grownBy w' none := by
  have b0 : 0 ≤ c0 ∧ c0 ≤ 255 := by have := (s[0]'(by omega)).toNat_lt; omega
  have b1 : 0 ≤ c1 ∧ c1 ≤ 255 := by have := (s[1]'(by omega)).toNat_lt; omega
  obtain ⟨b00, b01⟩ := b0
  obtain ⟨b10, b11⟩ := b1
  have t1 : (c0 + 256 * c1).tdiv 1024 = (c0 + 256 * c1) / 1024 := Int.tdiv_eq_ediv_of_nonneg (by omega)
  have t2 : (c0 + 256 * c1).tdiv 32 = (c0 + 256 * c1) / 32 := Int.tdiv_eq_ediv_of_nonneg (by omega)
  have t3 : ((c0 + 256 * c1) / 1024).tmod 32 = (c0 + 256 * c1) / 1024 % 32 := Int.tmod_eq_emod_of_nonneg (by omega)
  have t4 : ((c0 + 256 * c1) / 32).tmod 32 = (c0 + 256 * c1) / 32 % 32 := Int.tmod_eq_emod_of_nonneg (by omega)
  have t5 : (c0 + 256 * c1).tmod 32 = (c0 + 256 * c1) % 32 := Int.tmod_eq_emod_of_nonneg (by omega)
  have KR := fun u => rmax_calls ((c0 + 256 * c1) / 1024 % 32) 31 u (by decide) (by decide) (by omega) (by omega)
  have KG := fun u => rmax_calls ((c0 + 256 * c1) / 32 % 32) 31 u (by decide) (by decide) (by omega) (by omega)
  have KB := fun u => rmax_calls ((c0 + 256 * c1) % 32) 31 u (by decide) (by decide) (by omega) (by omega)
  have r0 := near_0 (v := (c0 + 256 * c1) / 1024 % 32) (m := 31) (by decide) (by omega)
  have r1 := near_255 (v := (c0 + 256 * c1) / 1024 % 32) (m := 31) (by decide) (by omega)
  have g0 := near_0 (v := (c0 + 256 * c1) / 32 % 32) (m := 31) (by decide) (by omega)
  have g1 := near_255 (v := (c0 + 256 * c1) / 32 % 32) (m := 31) (by decide) (by omega)
  have d0 := near_0 (v := (c0 + 256 * c1) % 32) (m := 31) (by decide) (by omega)
  have d1 := near_255 (v := (c0 + 256 * c1) % 32) (m := 31) (by decide) (by omega)
  obtain ⟨A, hA⟩ : ∃ A, near ((c0 + 256 * c1) / 1024 % 32) 31 = A := ⟨_, rfl⟩
  obtain ⟨B, hB⟩ : ∃ B, near ((c0 + 256 * c1) / 32 % 32) 31 = B := ⟨_, rfl⟩
  obtain ⟨C, hC⟩ : ∃ C, near ((c0 + 256 * c1) % 32) 31 = C := ⟨_, rfl⟩
  simp only [hA] at KR r0 r1
  simp only [hB] at KG g0 g1
  simp only [hC] at KB d0 d1
  rw [hA, hB, hC]
  clear hA hB hC
  have w0 : 0 ≤ c0 + 256 * c1 := by omega
  have w1 : c0 + 256 * c1 ≤ 65535 := by omega
  have hx1 : 0 ≤ (c0 + 256 * c1) / 1024 ∧ (c0 + 256 * c1) / 1024 ≤ 63 := by omega
  obtain ⟨z, hz⟩ : ∃ z, c0 + 256 * c1 = z := ⟨_, rfl⟩
  rw [hz] at t1 t2 t3 t4 t5 w0 w1 hx1
  simp only [hz] at KR KG KB
  obtain ⟨x, hx⟩ : ∃ x, z / 1024 = x := ⟨_, rfl⟩
  obtain ⟨y, hy⟩ : ∃ y, z / 32 = y := ⟨_, rfl⟩
  simp only [hx] at t1 t3 KR hx1
  simp only [hy] at t2 t4 KG
  obtain ⟨x', hx'⟩ : ∃ x', x % 32 = x' := ⟨_, rfl⟩
  obtain ⟨y', hy'⟩ : ∃ y', y % 32 = y' := ⟨_, rfl⟩
  obtain ⟨z', hz'⟩ : ∃ z', z % 32 = z' := ⟨_, rfl⟩
  have v1 : 0 ≤ x' ∧ x' ≤ 31 := by omega
  have v2 : 0 ≤ y' ∧ y' ≤ 31 := by omega
  have v3 : 0 ≤ z' ∧ z' ≤ 31 := by omega
  have v4 : 0 ≤ y ∧ y ≤ 2047 := by omega
  simp only [hx'] at t3 KR
  simp only [hy'] at t4 KG
  simp only [hz'] at t5 KB
  have KR' := Lib.hid KR
  have KG' := Lib.hid KG
  have KB' := Lib.hid KB
  clear KR KG KB hx hy hx' hy' hz'
  obtain ⟨v10, v11⟩ := v1
  obtain ⟨v20, v21⟩ := v2
  obtain ⟨v30, v31⟩ := v3
  obtain ⟨v40, v41⟩ := v4
  obtain ⟨v50, v51⟩ := hx1
  go_enter Tryz.func105, Tryz.ntmps105
  go_wp2_with fail
  have hR : (W.alloc (.cells #[.int .u8 0, .int .u8 0, .int .u8 0, .int .u8 0] 135)).heap[W.heap.size]? = some (.cells #[.int .u8 0, .int .u8 0, .int .u8 0, .int .u8 0] 135 (0, 0)) := blk_at
  have hG := World.grownBy_alloc W (.cells #[.int .u8 0, .int .u8 0, .int .u8 0, .int .u8 0] 135) none
  generalize W.alloc (.cells #[.int .u8 0, .int .u8 0, .int .u8 0, .int .u8 0] 135) = w1 at hR hG ⊢
  have q0 : w1.cell? ⟨W.heap.size, 0, none⟩ = some (.int .u8 0) := blk_cell hR 0
  have q1 : w1.cell? ⟨W.heap.size, 1, none⟩ = some (.int .u8 0) := blk_cell hR 1
  have q2 : w1.cell? ⟨W.heap.size, 2, none⟩ = some (.int .u8 0) := blk_cell hR 2
  have q3 : w1.cell? ⟨W.heap.size, 3, none⟩ = some (.int .u8 0) := blk_cell hR 3
  have f0 := blk_free hR 0
  have f1 := blk_free hR 1
  have f2 := blk_free hR 2
  have f3 := blk_free hR 3
  have HG := Lib.hid hG
  clear hR hG
  go_quiet (fail)
  go_wp2_with fail
  refine (KR'.out _).mono ?_
  rintro e w' ⟨rfl, rfl⟩
  go_wp2_with fail
  refine (KG'.out _).mono ?_
  rintro e w' ⟨rfl, rfl⟩
  go_wp2_with fail
  refine (KB'.out _).mono ?_
  rintro e w' ⟨rfl, rfl⟩
  go_wp2
  refine bodyPost_ret (v := .agg #[.int .u8 A, .int .u8 B, .int .u8 C, .int .u8 255]) (by simp [results, Tryz.results105, go_sem, q0, q1, q2, q3]) rfl ⟨rfl, ?_⟩
  exact gb_own (gb_own (gb_own (gb_own (gb_trans HG.out (gb_drewN _ _ _)) (Nat.le_refl _) (gb_set _ _ _ _)) (Nat.le_refl _) (gb_set _ _ _ _)) (Nat.le_refl _) (gb_set _ _ _ _)) (Nat.le_refl _) (gb_set _ _ _ _)

set_option maxRecDepth 100000 in
theorem rentry_three (s : ByteArray) (k c0 c1 c2 : Int) (W : World) (hk : k = 3 ∨ k = 4) (hs : 3 ≤ s.size) (hm : s.size ≤ 9223372036854775807) (h0 : ((s[0]'(by omega)).toNat : Int) = c0) (h1 : ((s[1]'(by omega)).toNat : Int) = c1) (h2 : ((s[2]'(by omega)).toNat : Int) = c2) :
    Calls Tryz.prog 105 #[.string s, .int .i64 k] W
      fun e w' => e = .returned (.agg #[.int .u8 c2, .int .u8 c1, .int .u8 c0, .int .u8 255]) ∧ W.grownBy w' none := by
  rcases hk with rfl | rfl
  all_goals
    go_enter Tryz.func105, Tryz.ntmps105
    go_wp2_with fail
    have hR : (W.alloc (.cells #[.int .u8 0, .int .u8 0, .int .u8 0, .int .u8 0] 135)).heap[W.heap.size]? = some (.cells #[.int .u8 0, .int .u8 0, .int .u8 0, .int .u8 0] 135 (0, 0)) := blk_at
    have hG := World.grownBy_alloc W (.cells #[.int .u8 0, .int .u8 0, .int .u8 0, .int .u8 0] 135) none
    have hz := size_alloc W (.cells #[.int .u8 0, .int .u8 0, .int .u8 0, .int .u8 0] 135)
    generalize W.alloc (.cells #[.int .u8 0, .int .u8 0, .int .u8 0, .int .u8 0] 135) = w1 at hR hG hz ⊢
    have q0 : w1.cell? ⟨W.heap.size, 0, none⟩ = some (.int .u8 0) := blk_cell hR 0
    have q1 : w1.cell? ⟨W.heap.size, 1, none⟩ = some (.int .u8 0) := blk_cell hR 1
    have q2 : w1.cell? ⟨W.heap.size, 2, none⟩ = some (.int .u8 0) := blk_cell hR 2
    have q3 : w1.cell? ⟨W.heap.size, 3, none⟩ = some (.int .u8 0) := blk_cell hR 3
    have f0 := blk_free hR 0
    have f1 := blk_free hR 1
    have f2 := blk_free hR 2
    have f3 := blk_free hR 3
    have HG := Lib.hid hG
    clear hR hG
    go_region
    go_wp2
    have hlt : W.heap.size < w1.heap.size := by omega
    refine bodyPost_ret (v := .agg #[.int .u8 c2, .int .u8 c1, .int .u8 c0, .int .u8 255]) (by simp only [results, Tryz.results105]; go_simp) rfl ⟨rfl, ?_⟩
    exact gb_trans (gb_trans (gb_own (gb_own (gb_own (gb_own HG.out (Nat.le_refl _) (gb_set _ _ _ _)) (Nat.le_refl _) (gb_set _ _ _ _)) (Nat.le_refl _) (gb_set _ _ _ _)) (Nat.le_refl _) (gb_set _ _ _ _)) (World.grownBy_alloc _ _ _)) (gb_drew _ _)

set_option maxRecDepth 100000 in
theorem rentry_five (s : ByteArray) (c0 c1 c2 c3 : Int) (W : World) (hs : 4 ≤ s.size) (hm : s.size ≤ 9223372036854775807) (h0 : ((s[0]'(by omega)).toNat : Int) = c0) (h1 : ((s[1]'(by omega)).toNat : Int) = c1) (h2 : ((s[2]'(by omega)).toNat : Int) = c2) (h3 : ((s[3]'(by omega)).toNat : Int) = c3) :
    Calls Tryz.prog 105 #[.string s, .int .i64 5] W
      fun e w' => e = .returned (.agg #[.int .u8 c2, .int .u8 c1, .int .u8 c0, .int .u8 c3]) ∧ W.grownBy w' none := by
  go_enter Tryz.func105, Tryz.ntmps105
  go_wp2_with fail
  have hR : (W.alloc (.cells #[.int .u8 0, .int .u8 0, .int .u8 0, .int .u8 0] 135)).heap[W.heap.size]? = some (.cells #[.int .u8 0, .int .u8 0, .int .u8 0, .int .u8 0] 135 (0, 0)) := blk_at
  have hG := World.grownBy_alloc W (.cells #[.int .u8 0, .int .u8 0, .int .u8 0, .int .u8 0] 135) none
  have hz := size_alloc W (.cells #[.int .u8 0, .int .u8 0, .int .u8 0, .int .u8 0] 135)
  generalize W.alloc (.cells #[.int .u8 0, .int .u8 0, .int .u8 0, .int .u8 0] 135) = w1 at hR hG hz ⊢
  have q0 : w1.cell? ⟨W.heap.size, 0, none⟩ = some (.int .u8 0) := blk_cell hR 0
  have q1 : w1.cell? ⟨W.heap.size, 1, none⟩ = some (.int .u8 0) := blk_cell hR 1
  have q2 : w1.cell? ⟨W.heap.size, 2, none⟩ = some (.int .u8 0) := blk_cell hR 2
  have q3 : w1.cell? ⟨W.heap.size, 3, none⟩ = some (.int .u8 0) := blk_cell hR 3
  have f0 := blk_free hR 0
  have f1 := blk_free hR 1
  have f2 := blk_free hR 2
  have f3 := blk_free hR 3
  have HG := Lib.hid hG
  clear hR hG
  go_region
  go_wp2
  have hlt : W.heap.size < w1.heap.size := by omega
  refine bodyPost_ret (v := .agg #[.int .u8 c2, .int .u8 c1, .int .u8 c0, .int .u8 c3]) (by simp only [results, Tryz.results105]; go_simp) rfl ⟨rfl, ?_⟩
  exact gb_trans (gb_trans (gb_own (gb_own (gb_own (gb_own HG.out (Nat.le_refl _) (gb_set _ _ _ _)) (Nat.le_refl _) (gb_set _ _ _ _)) (Nat.le_refl _) (gb_set _ _ _ _)) (Nat.le_refl _) (gb_set _ _ _ _)) (World.grownBy_alloc _ _ _)) (gb_drew _ _)

end Go.Proofs.YtnieeckdldpebaaGreat.Pa
