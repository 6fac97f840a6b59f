/- Layer 10: the code's find, Size, walked. -/
import Derived.Test.YtljbhahdaepecaaPal3
import Derived.Deep.LoopGhost
import Derived.Laws.EntriesVeiled
namespace Go.Proofs.Ytljbhahdaepecaa.Pa
open Go.ChangeShapes Go.WideShapes Go.ChangeAt Go.RowKit
open Go.Proofs.Ytljbhahdaepecaa.Sc Go.Proofs.Ytljbhahdaepecaa.Le
set_option linter.unusedVariables false

/-- The table's rows: kind, size, reading. -/
def kdL (k : Nat) : Int := k + 2
def szL (k : Nat) : Int := if k = 3 then 4 else k + 2
def fmL (k : Nat) : Nat := if k = 0 then 36 else if k = 3 then 38 else 37
def layV (a b : Int) (m : Nat) : Array Value := #[.int .i64 a, .int .i64 b, .func (.func m) #[] #[]]

theorem idx_lay (k : Nat) (hk : k < 4) (w : World) :
    (Instr.index 92 (.agg #[.int .i64 2, .int .i64 2, .func (.func 36) #[] #[], .int .i64 3, .int .i64 3, .func (.func 37) #[] #[], .int .i64 4, .int .i64 4, .func (.func 37) #[] #[], .int .i64 5, .int .i64 4, .func (.func 38) #[] #[]]) (.int .i64 (k : Int))).run Try.prog w = .ok (.agg #[.int .i64 (kdL k), .int .i64 (szL k), (.func (.func (fmL k)) #[] #[])]) w := by
  obtain rfl | rfl | rfl | rfl : k = 0 ∨ k = 1 ∨ k = 2 ∨ k = 3 := by omega
  all_goals kernel_rfl

/-- What holds at the head of the loop over the rows. -/
structure LI (W w : World) : Prop where
  res : w.heap[W.heap.size]? = some (.cells #[.int .i64 0, .int .i64 0, .nilFunc] 55 (0, 0))
  gb : W.grownBy w none
theorem LI.grown {W w w' : World} (h : LI W w) (g : w.grownBy w' none) : LI W w' := ⟨old0 g h.res (blk_lt h.res) (by simp), gb_trans h.gb g⟩

set_option maxRecDepth 100000 in
theorem find_yes (t : Nat) (kd : Int) (W : World) (ht : t < 4) (hkd : kd = t + 2) :
    Calls Try.prog 24 #[.int .i64 kd] W fun e w' => e = .returned (.tuple #[.agg #[.int .i64 kd, .int .i64 (szL t), .func (.func (fmL t)) #[] #[]], .bool true]) ∧ W.grownBy w' none := by
  have HKD := Lib.hid hkd
  obtain ⟨yt, hyt⟩ : ∃ x, szL t = x := ⟨_, rfl⟩
  obtain ⟨mt, hmt⟩ : ∃ x, fmL t = x := ⟨_, rfl⟩
  rw [hyt, hmt]
  have HYT := Lib.hid hyt
  have HMT := Lib.hid hmt
  clear hkd hyt hmt
  go_enter Try.func24, Try.ntmps24
  go_wp2_with fail
  have I1 : LI W (W.alloc (.cells #[.int .i64 0, .int .i64 0, .nilFunc] 55)) := ⟨blk_at, World.grownBy_alloc _ _ _⟩
  generalize W.alloc (.cells #[.int .i64 0, .int .i64 0, .nilFunc] 55) = w1 at I1 ⊢
  have HI1 := Lib.hid I1
  clear I1
  go_loopg [11] 5 (fun q iv wr => ∃ (k : Nat), k ≤ t ∧ q = 5 - k ∧ iv = .int .i64 k ∧ LI W wr)
  case atStart => exact ⟨0, by omega, rfl, rfl, HI1.out⟩
  case round =>
    obtain ⟨k, hk, rfl, rfl, J⟩ := hrel
    have hlt := blk_lt J.res
    have r0 : wr.cell? ⟨W.heap.size, 0, none⟩ = some (.int .i64 0) := blk_cell J.res 0
    have r1 : wr.cell? ⟨W.heap.size, 1, none⟩ = some (.int .i64 0) := blk_cell J.res 1
    have r2 : wr.cell? ⟨W.heap.size, 2, none⟩ = some .nilFunc := blk_cell J.res 2
    have f0 := blk_free J.res 0
    have f1 := blk_free J.res 1
    have f2 := blk_free J.res 2
    have HJ := Lib.hid J
    clear J HI1
    have h4 : k < 4 := by omega
    have hidx := idx_lay k h4
    have hK : kdL k = k + 2 := rfl
    by_cases hkt : k < t
    · have hne : (kdL k == kd) = false := by rw [hK, HKD.out, beq_eq_false_iff_ne]; omega
      obtain ⟨x, hx⟩ : ∃ x, kdL k = x := ⟨_, rfl⟩
      obtain ⟨y, hy⟩ : ∃ x, szL k = x := ⟨_, rfl⟩
      obtain ⟨m, hm⟩ : ∃ x, fmL k = x := ⟨_, rfl⟩
      rw [hx] at hne
      rw [hx, hy, hm] at hidx
      clear hK hx hy hm r0 r1 r2 f0 f1 f2
      go_wp2
      go_roundg (5 - (k + 1))
      case measure => omega
      case rel => exact ⟨k + 1, by omega, rfl, by go_num, HJ.out.grown (World.grownBy_alloc _ _ _)⟩
    · obtain rfl : k = t := by omega
      have hx : kdL k = kd := by rw [hK, HKD.out]
      rw [hx, HYT.out, HMT.out] at hidx
      clear hK hx
      go_wp2
      refine bodyPost_ret (v := .tuple #[.agg #[.int .i64 kd, .int .i64 yt, .func (.func mt) #[] #[]], .bool true]) (by rw [results_cell_tmp (fn := Try.f24) rfl]; go_simp) rfl ⟨rfl, ?_⟩
      exact gb_trans (gb_own (gb_own (gb_own HJ.out.gb (Nat.le_refl _) (gb_set _ _ _ _)) (Nat.le_refl _) (gb_set _ _ _ _)) (Nat.le_refl _) (gb_set _ _ _ _)) (World.grownBy_alloc _ _ _)

set_option maxRecDepth 100000 in
theorem find_no (kd : Int) (W : World) (h : kd < 2 ∨ 5 < kd) :
    Calls Try.prog 24 #[.int .i64 kd] W fun e w' => e = .returned (.tuple #[.agg #[.int .i64 0, .int .i64 0, .nilFunc], .bool false]) ∧ W.grownBy w' none := by
  have HKD := Lib.hid h
  clear h
  go_enter Try.func24, Try.ntmps24
  go_wp2_with fail
  have I1 : LI W (W.alloc (.cells #[.int .i64 0, .int .i64 0, .nilFunc] 55)) := ⟨blk_at, World.grownBy_alloc _ _ _⟩
  generalize W.alloc (.cells #[.int .i64 0, .int .i64 0, .nilFunc] 55) = w1 at I1 ⊢
  have HI1 := Lib.hid I1
  clear I1
  go_loopg [11] 5 (fun q iv wr => ∃ (k : Nat), k ≤ 4 ∧ q = 5 - k ∧ iv = .int .i64 k ∧ LI W wr)
  case atStart => exact ⟨0, by omega, rfl, rfl, HI1.out⟩
  case round =>
    obtain ⟨k, hk, rfl, rfl, J⟩ := hrel
    have hlt := blk_lt J.res
    have r0 : wr.cell? ⟨W.heap.size, 0, none⟩ = some (.int .i64 0) := blk_cell J.res 0
    have r1 : wr.cell? ⟨W.heap.size, 1, none⟩ = some (.int .i64 0) := blk_cell J.res 1
    have r2 : wr.cell? ⟨W.heap.size, 2, none⟩ = some .nilFunc := blk_cell J.res 2
    have f0 := blk_free J.res 0
    have f1 := blk_free J.res 1
    have f2 := blk_free J.res 2
    have HJ := Lib.hid J
    clear J HI1
    by_cases h4 : k < 4
    · have hidx := idx_lay k h4
      have hK : kdL k = k + 2 := rfl
      have hne : (kdL k == kd) = false := by rw [hK, beq_eq_false_iff_ne]; have := HKD.out; omega
      obtain ⟨x, hx⟩ : ∃ x, kdL k = x := ⟨_, rfl⟩
      obtain ⟨y, hy⟩ : ∃ x, szL k = x := ⟨_, rfl⟩
      obtain ⟨m, hm⟩ : ∃ x, fmL k = x := ⟨_, rfl⟩
      rw [hx] at hne
      rw [hx, hy, hm] at hidx
      clear hK hx hy hm r0 r1 r2 f0 f1 f2
      go_wp2
      go_roundg (5 - (k + 1))
      case measure => omega
      case rel => exact ⟨k + 1, by omega, rfl, by go_num, HJ.out.grown (World.grownBy_alloc _ _ _)⟩
    · obtain rfl : k = 4 := by omega
      go_wp2
      refine bodyPost_ret (v := .tuple #[.agg #[.int .i64 0, .int .i64 0, .nilFunc], .bool false]) (by rw [results_cell_tmp (fn := Try.f24) rfl]; go_simp) rfl ⟨rfl, ?_⟩
      exact gb_own (gb_own (gb_own HJ.out.gb (Nat.le_refl _) (gb_set _ _ _ _)) (Nat.le_refl _) (gb_set _ _ _ _)) (Nat.le_refl _) (gb_set _ _ _ _)

theorem size_yes (t : Nat) (kd : Int) (W : World) (ht : t < 4) (hkd : kd = t + 2) : Calls Try.prog 10 #[.int .i64 kd] W fun e w' => e = .returned (.int .i64 (szL t)) ∧ W.grownBy w' none := by
  have K := find_yes t kd W ht hkd
  obtain ⟨y, hy⟩ : ∃ x, szL t = x := ⟨_, rfl⟩
  obtain ⟨m, hm⟩ : ∃ x, fmL t = x := ⟨_, rfl⟩
  rw [hy, hm] at K
  rw [hy]
  have K' := Lib.hid K
  clear K hkd hy hm
  go_enter Try.func10, Try.ntmps10
  go_wp2_with fail
  refine K'.out.mono ?_
  rintro e w1 ⟨rfl, g1⟩
  go_wp2
  go_ret
  exact ⟨rfl, gb_trans g1 (World.grownBy_alloc _ _ _)⟩

theorem size_no (kd : Int) (W : World) (h : kd < 2 ∨ 5 < kd) : Calls Try.prog 10 #[.int .i64 kd] W fun e w' => e = .returned (.int .i64 0) ∧ W.grownBy w' none := by
  have K' := Lib.hid (find_no kd W h)
  clear h
  go_enter Try.func10, Try.ntmps10
  go_wp2_with fail
  refine K'.out.mono ?_
  rintro e w1 ⟨rfl, g1⟩
  go_wp2
  go_ret
  exact ⟨rfl, gb_trans g1 (World.grownBy_alloc _ _ _)⟩

end Go.Proofs.Ytljbhahdaepecaa.Pa
