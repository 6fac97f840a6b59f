/- Layer 31: the chapter's example. -/
import Derived.Test.YtfhcefglefkakaaGreatDoorNe4
namespace Go.Proofs.YtfhcefglefkakaaGreatDoor.Ne
open Go.ChangeShapes Go.WideShapes Go.ChangeAt Go.RowKit
open Go.Proofs.YtfhcefglefkakaaGreatDoor.Le Go.Proofs.YtfhcefglefkakaaGreatDoor.Tk Go.Proofs.YtfhcefglefkakaaGreatDoor.Sr Go.Proofs.YtfhcefglefkakaaGreatDoor.Sn
set_option linter.unusedVariables false

set_option maxRecDepth 100000 in
set_option maxHeartbeats 4000000 in
theorem awake_calls (W : World) (HT : OrdT W) : Calls Tryz.prog 6 #[] W fun e w' => e = .returned (.bool true) ∧ W.grownBy w' none := by
  have KO := of_calls W HT
  unfold exN planV at KO
  have KO := Lib.hid KO
  have KN := fun u => need_ok 3 2 3 8 0 0 17 (by unfold GdP; decide) u
  unfold planV budV at KN
  have KN := Lib.hid KN
  clear HT
  go_enter Tryz.func6, Tryz.ntmps6
  go_wp2_with fail
  refine KO.out.mono ?_
  rintro e w1 ⟨rfl, g1⟩
  have HG1 := Lib.hid (gb_trans g1 (gb_trans (World.grownBy_alloc w1 (.cells #[.int .i64 3, .int .i64 2, .int .i64 3, .int .i64 8, .int .i64 0, .int .i64 0] 23) none) (World.grownBy_alloc _ (.cells #[.int .i64 0, .int .i64 0, .int .i64 0] 36) none)))
  have hP : ((w1.alloc (.cells #[.int .i64 3, .int .i64 2, .int .i64 3, .int .i64 8, .int .i64 0, .int .i64 0] 23)).alloc (.cells #[.int .i64 0, .int .i64 0, .int .i64 0] 36)).heap[w1.heap.size]? = some (.cells #[.int .i64 3, .int .i64 2, .int .i64 3, .int .i64 8, .int .i64 0, .int .i64 0] 23 (0, 0)) := blk_al blk_at _
  have hF : ((w1.alloc (.cells #[.int .i64 3, .int .i64 2, .int .i64 3, .int .i64 8, .int .i64 0, .int .i64 0] 23)).alloc (.cells #[.int .i64 0, .int .i64 0, .int .i64 0] 36)).heap[w1.heap.size + 1]? = some (.cells #[.int .i64 0, .int .i64 0, .int .i64 0] 36 (0, 0)) := by
    rw [← size_alloc w1 (.cells #[.int .i64 3, .int .i64 2, .int .i64 3, .int .i64 8, .int .i64 0, .int .i64 0] 23)]
    exact blk_at
  clear g1 KO
  go_wp2_with fail
  generalize (w1.alloc (.cells #[.int .i64 3, .int .i64 2, .int .i64 3, .int .i64 8, .int .i64 0, .int .i64 0] 23)).alloc (.cells #[.int .i64 0, .int .i64 0, .int .i64 0] 36) = w2 at HG1 hP hF ⊢
  refine (KN.out _).mono ?_
  rintro e w3 ⟨rfl, g3⟩
  have HG3 := Lib.hid (gb_trans HG1.out (gb_trans g3 (World.grownBy_alloc w3 (.cells #[.int .i64 2, .int .i64 3, .int .i64 24, .int .i64 1352] 25) none)))
  have P3 := (g3.block _ (blk_lt hP) (by simp)).trans hP
  have F3 := (g3.block _ (blk_lt hF) (by simp)).trans hF
  have hlt := blk_lt F3
  have a0 := blk_cell P3 0
  have a1 := blk_cell P3 1
  have a2 := blk_cell P3 2
  have a3 := blk_cell P3 3
  have a4 := blk_cell P3 4
  have a5 := blk_cell P3 5
  have b0 := blk_cell F3 0
  have b1 := blk_cell F3 1
  have b2 := blk_cell F3 2
  simp only [List.getElem?_toArray, List.getElem?_cons_succ, List.getElem?_cons_zero] at a0 a1 a2 a3 a4 a5 b0 b1 b2
  have m1 : ¬ w3.heap.size = w1.heap.size := by omega
  have m2 : ¬ w1.heap.size = w3.heap.size := by omega
  have m3 : ¬ w3.heap.size = w1.heap.size + 1 := by omega
  have m4 : ¬ w1.heap.size + 1 = w3.heap.size := by omega
  have m5 : w1.heap.size < w3.heap.size := by omega
  clear hP hF P3 F3 g3 KN
  go_wp2
  go_ret
  exact ⟨rfl, HG3.out⟩

end Go.Proofs.YtfhcefglefkakaaGreatDoor.Ne
