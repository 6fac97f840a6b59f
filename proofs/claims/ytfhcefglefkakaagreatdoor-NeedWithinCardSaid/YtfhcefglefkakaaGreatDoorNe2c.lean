/- Layer 31: a plan's need (written by wip/gen/ne2.py). -/
import Derived.Test.YtfhcefglefkakaaGreatDoorNe2a
import Derived.Deep.CutRange
namespace Go.Proofs.YtfhcefglefkakaaGreatDoor.Ne
open Go.ChangeShapes Go.WideShapes Go.ChangeAt Go.RowKit
open Go.Proofs.YtfhcefglefkakaaGreatDoor.Le Go.Proofs.YtfhcefglefkakaaGreatDoor.Tk Go.Proofs.YtfhcefglefkakaaGreatDoor.Sr Go.Proofs.YtfhcefglefkakaaGreatDoor.Sn
set_option linter.unusedVariables false

def rplV (w h c r : Int) : Value := .agg #[.int .i64 0, .int .i64 w, .int .i64 h, .int .i64 0, .int .i64 c, .int .i64 r, .int .i64 0, .int .i64 0]
set_option maxRecDepth 100000 in
set_option maxHeartbeats 4000000 in
theorem rneed_ok (w h c r n : Int) (G : GdP w h c r n) (W : World) : Calls Tryz.prog 7 #[rplV w h c r, .int .i64 n] W fun e w' => e = .returned (budV w h (4 * (w * h) + 4 * c + r) (8 * n + 32 * (w * h) + 1024)) ∧ W.grownBy w' none := by
  obtain ⟨gw, gh, gc, gr, gn⟩ := G
  obtain ⟨m1, m2⟩ := mul_bd gw.1 gw.2 gh.1 gh.2
  have hq := wr_in (4 * w) (by omega) (by omega)
  obtain ⟨m, hm⟩ : ∃ m, w * h = m := ⟨_, rfl⟩
  rw [hm] at m1 m2 ⊢
  have hwm : IntKind.i64.wrap (4 * w * h) = 4 * m := by rw [Int.mul_assoc, hm]; exact wr_in _ (by omega) (by omega)
  have hw2 := wr_in (4 * c) (by omega) (by omega)
  have hw3 := wr_in (4 * m + 4 * c) (by omega) (by omega)
  have hw4 := wr_in (4 * m + 4 * c + r) (by omega) (by omega)
  have hw5 := wr_in (n + 4 * m) (by omega) (by omega)
  have hw6 := wr_in (8 * (n + 4 * m)) (by omega) (by omega)
  have hw7 := wr_in (8 * (n + 4 * m) + 1024) (by omega) (by omega)
  have HE := Lib.hid (show 8 * (n + 4 * m) + 1024 = 8 * n + 32 * m + 1024 by omega)
  have HG := Lib.hid (gb_trans (World.grownBy_alloc W (.cells #[.int .i64 0, .int .i64 w, .int .i64 h, .int .i64 0, .int .i64 c, .int .i64 r, .int .i64 0, .int .i64 0] 30) none) (World.grownBy_alloc _ (.cells #[.int .i64 0, .int .i64 0, .int .i64 0, .int .i64 0] 25) none))
  unfold rplV
  clear gw gh gc gr gn hm m1 m2
  go_enter Tryz.func7, Tryz.ntmps7
  go_upto_region 1 with fail
  have hP : ((W.alloc (.cells #[.int .i64 0, .int .i64 w, .int .i64 h, .int .i64 0, .int .i64 c, .int .i64 r, .int .i64 0, .int .i64 0] 30)).alloc (.cells #[.int .i64 0, .int .i64 0, .int .i64 0, .int .i64 0] 25)).heap[W.heap.size]? = some (.cells #[.int .i64 0, .int .i64 w, .int .i64 h, .int .i64 0, .int .i64 c, .int .i64 r, .int .i64 0, .int .i64 0] 30 (0, 0)) := blk_al blk_at _
  have hB : ((W.alloc (.cells #[.int .i64 0, .int .i64 w, .int .i64 h, .int .i64 0, .int .i64 c, .int .i64 r, .int .i64 0, .int .i64 0] 30)).alloc (.cells #[.int .i64 0, .int .i64 0, .int .i64 0, .int .i64 0] 25)).heap[W.heap.size + 1]? = some (.cells #[.int .i64 0, .int .i64 0, .int .i64 0, .int .i64 0] 25 (0, 0)) := by
    rw [← size_alloc W (.cells #[.int .i64 0, .int .i64 w, .int .i64 h, .int .i64 0, .int .i64 c, .int .i64 r, .int .i64 0, .int .i64 0] 30)]
    exact blk_at
  generalize (W.alloc (.cells #[.int .i64 0, .int .i64 w, .int .i64 h, .int .i64 0, .int .i64 c, .int .i64 r, .int .i64 0, .int .i64 0] 30)).alloc (.cells #[.int .i64 0, .int .i64 0, .int .i64 0, .int .i64 0] 25) = w0 at HG hP hB ⊢
  have p0 := blk_cell hP 0
  have p1 := blk_cell hP 1
  have p2 := blk_cell hP 2
  have p3 := blk_cell hP 3
  have p4 := blk_cell hP 4
  have p5 := blk_cell hP 5
  have p6 := blk_cell hP 6
  have p7 := blk_cell hP 7
  have b0 := blk_cell hB 0
  have b1 := blk_cell hB 1
  have b2 := blk_cell hB 2
  have b3 := blk_cell hB 3
  have f0 := blk_free hB 0
  have f1 := blk_free hB 1
  have f2 := blk_free hB 2
  have f3 := blk_free hB 3
  simp only [List.getElem?_toArray, List.getElem?_cons_succ, List.getElem?_cons_zero] at p0 p1 p2 p3 p4 p5 p6 p7 b0 b1 b2 b3
  have hlt := blk_lt hB
  clear hP hB
  go_wp2
  refine bodyPost_ret (v := budV w h (4 * m + 4 * c + r) (8 * (n + 4 * m) + 1024)) (by simp only [results, Tryz.results7, budV]; go_simp) rfl ⟨by rw [HE.out], ?_⟩
  exact gb_own (gb_own (gb_own (gb_own HG.out (by omega) (gb_set _ _ _ _)) (by omega) (gb_set _ _ _ _)) (by omega) (gb_set _ _ _ _)) (by omega) (gb_set _ _ _ _)

end Go.Proofs.YtfhcefglefkakaaGreatDoor.Ne
