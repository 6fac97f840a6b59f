/- Layer 31: a plan's need (written by wip/gen/ne2.py). -/
import Derived.Test.YtfhcefglefkakaaGreatDoorNe1
import Derived.Deep.CutRange
namespace Go.Proofs.YtfhcefglefkakaaGreatDoor.Ne
open Go.ChangeShapes Go.WideShapes Go.ChangeAt Go.RowKit
open Go.Proofs.YtfhcefglefkakaaGreatDoor.Le Go.Proofs.YtfhcefglefkakaaGreatDoor.Tk Go.Proofs.YtfhcefglefkakaaGreatDoor.Sr Go.Proofs.YtfhcefglefkakaaGreatDoor.Sn
set_option linter.unusedVariables false

def planV (f w h b c r : Int) : Value := .agg #[.int .i64 f, .int .i64 w, .int .i64 h, .int .i64 b, .int .i64 c, .int .i64 r]
def budV (a b c d : Int) : Value := .agg #[.int .i64 a, .int .i64 b, .int .i64 c, .int .i64 d]
/-- Are a plan's numbers such as a need is told of? -/
def GdP (w h c r n : Int) : Prop := (1 ≤ w ∧ w ≤ 16384) ∧ (1 ≤ h ∧ h ≤ 16384) ∧ (0 ≤ c ∧ c ≤ 1099511627776) ∧ (0 ≤ r ∧ r ≤ 1099511627776) ∧ (0 ≤ n ∧ n ≤ 1099511627776)
theorem wr_in (x : Int) (h1 : -4611686018427387904 ≤ x) (h2 : x ≤ 4611686018427387904) : IntKind.i64.wrap x = x := IntWalk.i64_in _ (by omega)
theorem mul_bd {w h : Int} (w1 : 1 ≤ w) (w2 : w ≤ 16384) (h1 : 1 ≤ h) (h2 : h ≤ 16384) : 1 ≤ w * h ∧ w * h ≤ 268435456 := by
  have a1 := Int.mul_le_mul w1 h1 (by omega) (by omega)
  have a2 := Int.mul_le_mul w2 h2 (by omega) (by omega)
  omega

set_option maxRecDepth 100000 in
set_option maxHeartbeats 4000000 in
theorem need_ok (f w h b c r n : Int) (G : GdP w h c r n) (W : World) : Calls Tryz.prog 5 #[planV f w h b c r, .int .i64 n] W fun e w' => e = .returned (budV w h (4 * (w * h) + 4 * c + r) (8 * n + 32 * (w * h) + 1024)) ∧ W.grownBy w' none := by
  obtain ⟨gw, gh, gc, gr, gn⟩ := G
  have K1 := fun u => side_calls w u
  have K2 := fun u => side_calls h u
  have K3 := fun u => count_calls c u
  have K4 := fun u => count_calls r u
  have K5 := fun u => count_calls n u
  rw [decide_eq_true gw] at K1
  rw [decide_eq_true gh] at K2
  rw [decide_eq_true gc] at K3
  rw [decide_eq_true gr] at K4
  rw [decide_eq_true gn] at K5
  obtain ⟨m1, m2⟩ := mul_bd gw.1 gw.2 gh.1 gh.2
  have hw0 := wr_in (w * h) (by omega) (by omega)
  obtain ⟨m, hm⟩ : ∃ m, w * h = m := ⟨_, rfl⟩
  rw [hm] at hw0 m1 m2 ⊢
  have hwm : IntKind.i64.wrap (w * h) = m := by rw [hm]; exact hw0
  have hw1 := wr_in (4 * m) (by omega) (by omega)
  have hw2 := wr_in (4 * c) (by omega) (by omega)
  have hw3 := wr_in (4 * m + 4 * c) (by omega) (by omega)
  have hw4 := wr_in (4 * m + 4 * c + r) (by omega) (by omega)
  have hw5 := wr_in (8 * n) (by omega) (by omega)
  have hw6 := wr_in (32 * m) (by omega) (by omega)
  have hw7 := wr_in (8 * n + 32 * m) (by omega) (by omega)
  have hw8 := wr_in (8 * n + 32 * m + 1024) (by omega) (by omega)
  have K1 := Lib.hid K1
  have K2 := Lib.hid K2
  have K3 := Lib.hid K3
  have K4 := Lib.hid K4
  have K5 := Lib.hid K5
  have HG := Lib.hid (gb_trans (World.grownBy_alloc W (.cells #[.int .i64 f, .int .i64 w, .int .i64 h, .int .i64 b, .int .i64 c, .int .i64 r] 23) none) (World.grownBy_alloc _ (.cells #[.int .i64 0, .int .i64 0, .int .i64 0, .int .i64 0] 25) none))
  unfold planV
  clear gw gh gc gr gn hm hw0 m1 m2
  go_enter Tryz.func5, Tryz.ntmps5
  go_wp2_with fail
  have hP : ((W.alloc (.cells #[.int .i64 f, .int .i64 w, .int .i64 h, .int .i64 b, .int .i64 c, .int .i64 r] 23)).alloc (.cells #[.int .i64 0, .int .i64 0, .int .i64 0, .int .i64 0] 25)).heap[W.heap.size]? = some (.cells #[.int .i64 f, .int .i64 w, .int .i64 h, .int .i64 b, .int .i64 c, .int .i64 r] 23 (0, 0)) := blk_al blk_at _
  have hB : ((W.alloc (.cells #[.int .i64 f, .int .i64 w, .int .i64 h, .int .i64 b, .int .i64 c, .int .i64 r] 23)).alloc (.cells #[.int .i64 0, .int .i64 0, .int .i64 0, .int .i64 0] 25)).heap[W.heap.size + 1]? = some (.cells #[.int .i64 0, .int .i64 0, .int .i64 0, .int .i64 0] 25 (0, 0)) := by
    rw [← size_alloc W (.cells #[.int .i64 f, .int .i64 w, .int .i64 h, .int .i64 b, .int .i64 c, .int .i64 r] 23)]
    exact blk_at
  generalize (W.alloc (.cells #[.int .i64 f, .int .i64 w, .int .i64 h, .int .i64 b, .int .i64 c, .int .i64 r] 23)).alloc (.cells #[.int .i64 0, .int .i64 0, .int .i64 0, .int .i64 0] 25) = w0 at HG hP hB ⊢
  have p0 := blk_cell hP 0
  have p1 := blk_cell hP 1
  have p2 := blk_cell hP 2
  have p3 := blk_cell hP 3
  have p4 := blk_cell hP 4
  have p5 := blk_cell hP 5
  have b0 := blk_cell hB 0
  have b1 := blk_cell hB 1
  have b2 := blk_cell hB 2
  have b3 := blk_cell hB 3
  have f0 := blk_free hB 0
  have f1 := blk_free hB 1
  have f2 := blk_free hB 2
  have f3 := blk_free hB 3
  simp only [List.getElem?_toArray, List.getElem?_cons_succ, List.getElem?_cons_zero] at p0 p1 p2 p3 p4 p5 b0 b1 b2 b3
  have hlt := blk_lt hB
  clear hP hB
  refine (K1.out _).mono ?_
  rintro e w' ⟨rfl, rfl⟩
  go_wp2_with fail
  refine (K2.out _).mono ?_
  rintro e w' ⟨rfl, rfl⟩
  go_wp2_with fail
  refine (K3.out _).mono ?_
  rintro e w' ⟨rfl, rfl⟩
  go_wp2_with fail
  refine (K4.out _).mono ?_
  rintro e w' ⟨rfl, rfl⟩
  go_wp2_with fail
  refine (K5.out _).mono ?_
  rintro e w' ⟨rfl, rfl⟩
  go_wp2
  refine bodyPost_ret (v := budV w h (4 * m + 4 * c + r) (8 * n + 32 * m + 1024)) (by simp only [results, Tryz.results5, budV]; go_simp) rfl ⟨rfl, ?_⟩
  exact gb_own (gb_own (gb_own (gb_own HG.out (by omega) (gb_set _ _ _ _)) (by omega) (gb_set _ _ _ _)) (by omega) (gb_set _ _ _ _)) (by omega) (gb_set _ _ _ _)

end Go.Proofs.YtfhcefglefkakaaGreatDoor.Ne
