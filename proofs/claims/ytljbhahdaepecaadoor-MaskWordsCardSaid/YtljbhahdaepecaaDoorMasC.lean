/- Layer 9: the code's Color of a word, walked, out of its channels. -/
import Derived.Test.YtljbhahdaepecaaDoorMasB
import Derived.Deep.LoopGhost
namespace Go.Proofs.YtljbhahdaepecaaDoor.Ma
open Go.ChangeShapes Go.WideShapes Go.ChangeAt Go.RowKit
open Go.Proofs.YtljbhahdaepecaaDoor.Le Go.Proofs.YtljbhahdaepecaaDoor.Sc
set_option linter.unusedVariables false

/-- What holds at the head of the loop over the channels. -/
structure CI (W : World) (S N Q : Nat → Int) (k : Nat) (w : World) : Prop where
  set : w.heap[W.heap.size]? = some (.cells #[.int .i64 (S 0), .int .i64 (N 0), .int .i64 (S 1), .int .i64 (N 1), .int .i64 (S 2), .int .i64 (N 2), .int .i64 (S 3), .int .i64 (N 3)] 35 (0, 0))
  res : w.heap[W.heap.size + 1]? = some (.cells #[.int .u8 0, .int .u8 0, .int .u8 0, .int .u8 0] 42 (0, 0))
  v : w.heap[W.heap.size + 1 + 1]? = some (.cells #[.int .u8 (if 0 < k then Q 0 else 0), .int .u8 (if 1 < k then Q 1 else 0), .int .u8 (if 2 < k then Q 2 else 0), .int .u8 (if 3 < k then Q 3 else 0)] 59 (0, 0))
  gb : W.grownBy w none

theorem CI.grown {W : World} {S N Q : Nat → Int} {k : Nat} {w w' : World} (h : CI W S N Q k w) (g : w.grownBy w' none) : CI W S N Q k w' :=
  ⟨old0 g h.set (blk_lt h.set) (by simp), old0 g h.res (blk_lt h.res) (by simp), old0 g h.v (blk_lt h.v) (by simp), gb_trans h.gb g⟩
theorem CI.next {W : World} {S N Q : Nat → Int} {k : Nat} {w : World} (h : CI W S N Q k w) (hk : k < 4) : CI W S N Q (k + 1) (w.setCell ⟨W.heap.size + 1 + 1, k, none⟩ (.int .u8 (Q k))) := by
  refine ⟨blk_other h.set (by omega), blk_other h.res (by omega), ?_, gb_own h.gb (by omega) (gb_set _ _ _ _)⟩
  rw [blk_set h.v]
  obtain rfl | rfl | rfl | rfl : k = 0 ∨ k = 1 ∨ k = 2 ∨ k = 3 := by omega
  all_goals rfl
theorem CI.cell {W : World} {S N Q : Nat → Int} {k : Nat} {w : World} (h : CI W S N Q k w) (hk : k < 4) : w.cell? ⟨W.heap.size + 1 + 1, k, none⟩ = some (.int .u8 0) := by
  rw [blk_cell h.v]
  obtain rfl | rfl | rfl | rfl : k = 0 ∨ k = 1 ∨ k = 2 ∨ k = 3 := by omega
  all_goals rfl

theorem idx_set (S N : Nat → Int) (k : Nat) (hk : k < 4) (w : World) :
    (Instr.index 57 (.agg #[.int .i64 (S 0), .int .i64 (N 0), .int .i64 (S 1), .int .i64 (N 1), .int .i64 (S 2), .int .i64 (N 2), .int .i64 (S 3), .int .i64 (N 3)]) (.int .i64 (k : Int))).run Tryd.prog w = .ok (.agg #[.int .i64 (S k), .int .i64 (N k)]) w := by
  obtain rfl | rfl | rfl | rfl : k = 0 ∨ k = 1 ∨ k = 2 ∨ k = 3 := by omega
  all_goals kernel_rfl

set_option maxRecDepth 100000 in
set_option maxHeartbeats 1000000 in
theorem color_calls (S N V Q : Nat → Int) (O : Nat → Bool) (word : Int) (z : Bool) (W : World)
    (KO : ∀ k, k < 4 → ∀ u, Calls Tryd.prog 10 #[.agg #[.int .i64 (S k), .int .i64 (N k)], .int .i64 word] u fun e w' => e = .returned (.int .i64 (V k)) ∧ u.grownBy w' none)
    (KB : ∀ k, k < 4 → ∀ u, Calls Tryd.prog 27 #[.int .i64 (V k), .int .i64 (N k)] u fun e w' => e = .returned (.tuple #[.int .u8 (Q k), .bool (O k)]) ∧ u = w')
    (hz : (N 3 == 0) = z) :
    Calls Tryd.prog 16 #[.agg (set8 (S 0) (N 0) (S 1) (N 1) (S 2) (N 2) (S 3) (N 3)), .int .i64 word] W
      fun e w' => e = .returned (.agg #[.int .u8 (Q 0), .int .u8 (Q 1), .int .u8 (Q 2), .int .u8 (if z then 255 else Q 3)]) ∧ W.grownBy w' none := by
  have M := fun u => masks_calls (S 0) (N 0) (S 1) (N 1) (S 2) (N 2) (S 3) (N 3) u
  unfold set8 at M ⊢
  have KO' := Lib.hid KO
  have KB' := Lib.hid KB
  have M' := Lib.hid M
  have HZ := Lib.hid hz
  clear KO KB M hz
  go_enter Tryd.func16, Tryd.ntmps16
  go_wp2_with fail
  refine (M'.out _).mono ?_
  rintro e w1 ⟨rfl, g1⟩
  have I1 : CI W S N Q 0 w1 := ⟨old3a g1 (by simp), old3b g1 (by simp), old3c g1 (by simp), gb_trans (gb_trans (gb_trans (World.grownBy_alloc _ _ _) (World.grownBy_alloc _ _ _)) (World.grownBy_alloc _ _ _)) g1⟩
  have HI1 := Lib.hid I1
  clear g1 I1
  go_wp2_with fail
  go_loopg [10] 4 (fun q iv wr => ∃ (k : Nat), k ≤ 4 ∧ q = 4 - k ∧ iv = .int .i64 k ∧ CI W S N Q k wr)
  case atStart => exact ⟨0, by omega, rfl, rfl, HI1.out⟩
  case round =>
    obtain ⟨k, hk, rfl, rfl, J⟩ := hrel
    have hvl : W.heap.size + 1 + 1 < wr.heap.size := blk_lt J.v
    have hne : ¬ (wr.heap.size = W.heap.size + 1 + 1) := by omega
    have hne' : ¬ (W.heap.size + 1 + 1 = wr.heap.size) := by omega
    have HJ := Lib.hid J
    clear J HI1
    by_cases hlt : k < 4
    · have hidx := idx_set S N k hlt
      obtain ⟨s, hs⟩ : ∃ s, S k = s := ⟨_, rfl⟩
      obtain ⟨n, hn⟩ : ∃ n, N k = n := ⟨_, rfl⟩
      obtain ⟨v, hv⟩ : ∃ v, V k = v := ⟨_, rfl⟩
      have KOk := KO'.out k hlt
      have KBk := KB'.out k hlt
      rw [hs, hn] at hidx
      rw [hs, hn, hv] at KOk
      rw [hn, hv] at KBk
      have KOh := Lib.hid KOk
      have KBh := Lib.hid KBk
      clear KOk KBk hs hn hv
      go_wp2_with fail
      have hM : (wr.alloc (.cells #[.int .i64 s, .int .i64 n] 23)).heap[wr.heap.size]? = some (.cells #[.int .i64 s, .int .i64 n] 23 (0, 0)) := blk_at
      have hJ5 := HJ.out.grown (World.grownBy_alloc wr (.cells #[.int .i64 s, .int .i64 n] 23) none)
      generalize wr.alloc (.cells #[.int .i64 s, .int .i64 n] 23) = w5 at hM hJ5 ⊢
      have m0 : w5.cell? ⟨wr.heap.size, 0, none⟩ = some (.int .i64 s) := blk_cell hM 0
      have m1 : w5.cell? ⟨wr.heap.size, 1, none⟩ = some (.int .i64 n) := blk_cell hM 1
      have HJ5 := Lib.hid hJ5
      clear hM hJ5 hidx
      go_region_held3 (fun w' => w'.cell? ⟨wr.heap.size, 0, none⟩ = some (.int .i64 s) ∧ w'.cell? ⟨wr.heap.size, 1, none⟩ = some (.int .i64 n)) (go_keep)
        (first | (go_at_call 10; with_reducible refine (KOh.out _).mono ?_; rintro e w6 ⟨rfl, g6o⟩; have g6 : w5.grownBy w6 none := (by first | exact gb_trans (gb_drew w5 _) g6o | exact g6o); clear g6o; have kk0 : w6.cell? ⟨wr.heap.size, 0, none⟩ = some (.int .i64 s) := g6.cell m0 (by simp); have kk1 : w6.cell? ⟨wr.heap.size, 1, none⟩ = some (.int .i64 n) := g6.cell m1 (by simp); have J6 := HJ5.out.grown g6; have HJ6 := Lib.hid J6; have vc := J6.cell hlt; have vf := blk_free J6.v k; clear J6 g6) | (go_at_call 27; with_reducible refine (KBh.out _).mono ?_; rintro e w7 ⟨rfl, rfl⟩))
      all_goals
        go_wp2
        go_roundg (4 - (k + 1))
        case measure => omega
        case rel => exact ⟨k + 1, by omega, rfl, by go_num, HJ6.out.next hlt⟩
    · obtain rfl : k = 4 := by omega
      have t7 : wr.cell? ⟨W.heap.size, 7, none⟩ = some (.int .i64 (N 3)) := blk_cell HJ.out.set 7
      have v0 : wr.cell? ⟨W.heap.size + 1 + 1, 0, none⟩ = some (.int .u8 (Q 0)) := blk_cell HJ.out.v 0
      have v1 : wr.cell? ⟨W.heap.size + 1 + 1, 1, none⟩ = some (.int .u8 (Q 1)) := blk_cell HJ.out.v 1
      have v2 : wr.cell? ⟨W.heap.size + 1 + 1, 2, none⟩ = some (.int .u8 (Q 2)) := blk_cell HJ.out.v 2
      have v3 : wr.cell? ⟨W.heap.size + 1 + 1, 3, none⟩ = some (.int .u8 (Q 3)) := blk_cell HJ.out.v 3
      have vf := blk_free HJ.out.v 3
      have r0 : wr.cell? ⟨W.heap.size + 1, 0, none⟩ = some (.int .u8 0) := blk_cell HJ.out.res 0
      have r1 : wr.cell? ⟨W.heap.size + 1, 1, none⟩ = some (.int .u8 0) := blk_cell HJ.out.res 1
      have r2 : wr.cell? ⟨W.heap.size + 1, 2, none⟩ = some (.int .u8 0) := blk_cell HJ.out.res 2
      have r3 : wr.cell? ⟨W.heap.size + 1, 3, none⟩ = some (.int .u8 0) := blk_cell HJ.out.res 3
      have f0 := blk_free HJ.out.res 0
      have f1 := blk_free HJ.out.res 1
      have f2 := blk_free HJ.out.res 2
      have f3 := blk_free HJ.out.res 3
      have HG := Lib.hid HJ.out.gb
      obtain ⟨n3, hn3⟩ : ∃ n, N 3 = n := ⟨_, rfl⟩
      have hz := HZ.out
      rw [hn3] at hz t7
      clear hn3 HJ
      cases z with
      | true =>
        go_wp2
        refine bodyPost_ret (v := .agg #[.int .u8 (Q 0), .int .u8 (Q 1), .int .u8 (Q 2), .int .u8 255]) (by simp only [results, Tryd.results16]; go_simp) rfl ⟨rfl, ?_⟩
        exact gb_own (gb_own (gb_own (gb_own (gb_own HG.out (by omega) (gb_set _ _ _ _)) (by omega) (gb_set _ _ _ _)) (by omega) (gb_set _ _ _ _)) (by omega) (gb_set _ _ _ _)) (by omega) (gb_set _ _ _ _)
      | false =>
        go_wp2
        refine bodyPost_ret (v := .agg #[.int .u8 (Q 0), .int .u8 (Q 1), .int .u8 (Q 2), .int .u8 (Q 3)]) (by simp only [results, Tryd.results16]; go_simp) rfl ⟨rfl, ?_⟩
        exact gb_own (gb_own (gb_own (gb_own HG.out (by omega) (gb_set _ _ _ _)) (by omega) (gb_set _ _ _ _)) (by omega) (gb_set _ _ _ _)) (by omega) (gb_set _ _ _ _)

end Go.Proofs.YtljbhahdaepecaaDoor.Ma
