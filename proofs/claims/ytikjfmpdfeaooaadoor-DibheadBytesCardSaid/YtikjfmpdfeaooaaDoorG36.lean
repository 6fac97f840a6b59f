/- Texts of one kind, one behind the other: Db8, Db9. -/
import Derived.Test.YtikjfmpdfeaooaaDoorG35
/- Layer 20: the law DibheadBytes, walked (written by wip/gen/dbl.py). -/
namespace Go.Proofs.YtikjfmpdfeaooaaDoor.Dh
open Go.ChangeShapes Go.WideShapes Go.ChangeAt Go.RowKit
open Go.Proofs.YtikjfmpdfeaooaaDoor.Le Go.Proofs.YtikjfmpdfeaooaaDoor.Sr Go.Proofs.YtikjfmpdfeaooaaDoor.Ma
set_option linter.unusedVariables false

set_option maxRecDepth 100000 in
set_option maxHeartbeats 4000000 in
theorem lawb_err (S X Y : Int) (tp : Bool) (D M C v0 v1 v2 v3 v4 v5 v6 v7 fr : Int) (W : World) (KB0 : ∀ u, W.grownBy u none → Calls Tryd.prog 18 #[.agg #[.int .i64 S, .int .i64 X, .int .i64 Y, .bool tp, .int .i64 D, .int .i64 M, .int .i64 C, .int .i64 v0, .int .i64 v1, .int .i64 v2, .int .i64 v3, .int .i64 v4, .int .i64 v5, .int .i64 v6, .int .i64 v7, .int .i64 fr]] u fun e w' => e = .returned (.tuple #[.string ⟨#[]⟩, .int .i64 6]) ∧ u.grownBy w' none) :
    Calls Tryd.prog 4 #[.agg #[.int .i64 S, .int .i64 X, .int .i64 Y, .bool tp, .int .i64 D, .int .i64 M, .int .i64 C, .int .i64 v0, .int .i64 v1, .int .i64 v2, .int .i64 v3, .int .i64 v4, .int .i64 v5, .int .i64 v6, .int .i64 v7, .int .i64 fr]] W fun e w' => e = .returned (.bool true) ∧ W.grownBy w' none := by
  have KB := Lib.hid KB0
  have KA := Lib.hid (fun u => awake_calls u)
  clear KB0
  go_enter Tryd.func4, Tryd.ntmps4
  go_upto_region 1 with fail
  have A0 := blk_at (w := W) (o := .cells #[.int .i64 S, .int .i64 X, .int .i64 Y, .bool tp, .int .i64 D, .int .i64 M, .int .i64 C, .int .i64 v0, .int .i64 v1, .int .i64 v2, .int .i64 v3, .int .i64 v4, .int .i64 v5, .int .i64 v6, .int .i64 v7, .int .i64 fr] 31)
  have G0 := World.grownBy_alloc W (.cells #[.int .i64 S, .int .i64 X, .int .i64 Y, .bool tp, .int .i64 D, .int .i64 M, .int .i64 C, .int .i64 v0, .int .i64 v1, .int .i64 v2, .int .i64 v3, .int .i64 v4, .int .i64 v5, .int .i64 v6, .int .i64 v7, .int .i64 fr] 31) none
  generalize W.alloc (.cells #[.int .i64 S, .int .i64 X, .int .i64 Y, .bool tp, .int .i64 D, .int .i64 M, .int .i64 C, .int .i64 v0, .int .i64 v1, .int .i64 v2, .int .i64 v3, .int .i64 v4, .int .i64 v5, .int .i64 v6, .int .i64 v7, .int .i64 fr] 31) = w0 at A0 G0 ⊢
  have a0 := blk_cell A0 0
  have f0 := blk_free A0 0
  have a1 := blk_cell A0 1
  have f1 := blk_free A0 1
  have a2 := blk_cell A0 2
  have f2 := blk_free A0 2
  have a3 := blk_cell A0 3
  have f3 := blk_free A0 3
  have a4 := blk_cell A0 4
  have f4 := blk_free A0 4
  have a5 := blk_cell A0 5
  have f5 := blk_free A0 5
  have a6 := blk_cell A0 6
  have f6 := blk_free A0 6
  have a7 := blk_cell A0 7
  have f7 := blk_free A0 7
  have a8 := blk_cell A0 8
  have f8 := blk_free A0 8
  have a9 := blk_cell A0 9
  have f9 := blk_free A0 9
  have a10 := blk_cell A0 10
  have f10 := blk_free A0 10
  have a11 := blk_cell A0 11
  have f11 := blk_free A0 11
  have a12 := blk_cell A0 12
  have f12 := blk_free A0 12
  have a13 := blk_cell A0 13
  have f13 := blk_free A0 13
  have a14 := blk_cell A0 14
  have f14 := blk_free A0 14
  have a15 := blk_cell A0 15
  have f15 := blk_free A0 15
  simp only [List.getElem?_toArray, List.getElem?_cons_succ, List.getElem?_cons_zero] at a0 a1 a2 a3 a4 a5 a6 a7 a8 a9 a10 a11 a12 a13 a14 a15
  have l0 := blk_lt A0
  have HA0 := Lib.hid A0
  have HG0 := Lib.hid G0
  clear A0 G0
  go_wp2_with fail
  refine (KB.out _ HG0.out).mono ?_
  rintro e w1 ⟨rfl, g1⟩
  have A1 := old0 g1 HA0.out (blk_lt HA0.out) (by simp)
  have G1 := gb_trans HG0.out g1
  clear g1 HA0 HG0
  clear a0 f0 a1 f1 a2 f2 a3 f3 a4 f4 a5 f5 a6 f6 a7 f7 a8 f8 a9 f9 a10 f10 a11 f11 a12 f12 a13 f13 a14 f14 a15 f15 l0
  have HG1 := Lib.hid G1
  clear A1 G1
  go_wp2_with fail
  refine (KA.out _).mono ?_
  rintro e w2 ⟨rfl, g2⟩
  have HG2 := Lib.hid (gb_trans HG1.out g2)
  clear g2
  go_wp2
  go_ret
  exact ⟨rfl, HG2.out⟩

set_option maxRecDepth 100000 in
set_option maxHeartbeats 4000000 in
theorem lawb_ok (S X Y : Int) (tp : Bool) (D M C v0 v1 v2 v3 v4 v5 v6 v7 fr : Int) (m0 m1 m2 m3 q : Int) (B : ByteArray) (hq0 : ((B.size : Nat) : Int) = q) (W : World) (KB0 : ∀ u, W.grownBy u none → Calls Tryd.prog 18 #[.agg #[.int .i64 S, .int .i64 X, .int .i64 Y, .bool tp, .int .i64 D, .int .i64 M, .int .i64 C, .int .i64 v0, .int .i64 v1, .int .i64 v2, .int .i64 v3, .int .i64 v4, .int .i64 v5, .int .i64 v6, .int .i64 v7, .int .i64 fr]] u fun e w' => e = .returned (.tuple #[.string B, .int .i64 0]) ∧ u.grownBy w' none)
    (KD0 : ∀ u, Calls Tryd.prog 11 #[.string B, .int .i64 0, .int .i64 q] u fun e w' => e = .returned (.agg #[.int .i64 S, .int .i64 X, .int .i64 Y, .bool tp, .int .i64 D, .int .i64 M, .int .i64 C, .int .i64 m0, .int .i64 m1, .int .i64 m2, .int .i64 m3, .int .i64 0, .int .i64 q, .int .i64 0, .int .i64 0]) ∧ u.grownBy w' none) (KS0 : ∀ u, Calls Tryd.prog 12 #[.agg #[.int .i64 S, .int .i64 X, .int .i64 Y, .bool tp, .int .i64 D, .int .i64 M, .int .i64 C, .int .i64 v0, .int .i64 v1, .int .i64 v2, .int .i64 v3, .int .i64 v4, .int .i64 v5, .int .i64 v6, .int .i64 v7, .int .i64 0], .agg #[.int .i64 S, .int .i64 X, .int .i64 Y, .bool tp, .int .i64 D, .int .i64 M, .int .i64 C, .int .i64 m0, .int .i64 m1, .int .i64 m2, .int .i64 m3, .int .i64 0, .int .i64 q, .int .i64 0, .int .i64 0]] u fun e w' => e = .returned (.bool true) ∧ u.grownBy w' none) :
    Calls Tryd.prog 4 #[.agg #[.int .i64 S, .int .i64 X, .int .i64 Y, .bool tp, .int .i64 D, .int .i64 M, .int .i64 C, .int .i64 v0, .int .i64 v1, .int .i64 v2, .int .i64 v3, .int .i64 v4, .int .i64 v5, .int .i64 v6, .int .i64 v7, .int .i64 fr]] W fun e w' => e = .returned (.bool true) ∧ W.grownBy w' none := by
  have KB := Lib.hid KB0
  have KD := Lib.hid KD0
  have KS := Lib.hid KS0
  have KA := Lib.hid (fun u => awake_calls u)
  clear KB0 KD0 KS0
  go_enter Tryd.func4, Tryd.ntmps4
  go_upto_region 1 with fail
  have A0 := blk_at (w := W) (o := .cells #[.int .i64 S, .int .i64 X, .int .i64 Y, .bool tp, .int .i64 D, .int .i64 M, .int .i64 C, .int .i64 v0, .int .i64 v1, .int .i64 v2, .int .i64 v3, .int .i64 v4, .int .i64 v5, .int .i64 v6, .int .i64 v7, .int .i64 fr] 31)
  have G0 := World.grownBy_alloc W (.cells #[.int .i64 S, .int .i64 X, .int .i64 Y, .bool tp, .int .i64 D, .int .i64 M, .int .i64 C, .int .i64 v0, .int .i64 v1, .int .i64 v2, .int .i64 v3, .int .i64 v4, .int .i64 v5, .int .i64 v6, .int .i64 v7, .int .i64 fr] 31) none
  generalize W.alloc (.cells #[.int .i64 S, .int .i64 X, .int .i64 Y, .bool tp, .int .i64 D, .int .i64 M, .int .i64 C, .int .i64 v0, .int .i64 v1, .int .i64 v2, .int .i64 v3, .int .i64 v4, .int .i64 v5, .int .i64 v6, .int .i64 v7, .int .i64 fr] 31) = w0 at A0 G0 ⊢
  have a0 := blk_cell A0 0
  have f0 := blk_free A0 0
  have a1 := blk_cell A0 1
  have f1 := blk_free A0 1
  have a2 := blk_cell A0 2
  have f2 := blk_free A0 2
  have a3 := blk_cell A0 3
  have f3 := blk_free A0 3
  have a4 := blk_cell A0 4
  have f4 := blk_free A0 4
  have a5 := blk_cell A0 5
  have f5 := blk_free A0 5
  have a6 := blk_cell A0 6
  have f6 := blk_free A0 6
  have a7 := blk_cell A0 7
  have f7 := blk_free A0 7
  have a8 := blk_cell A0 8
  have f8 := blk_free A0 8
  have a9 := blk_cell A0 9
  have f9 := blk_free A0 9
  have a10 := blk_cell A0 10
  have f10 := blk_free A0 10
  have a11 := blk_cell A0 11
  have f11 := blk_free A0 11
  have a12 := blk_cell A0 12
  have f12 := blk_free A0 12
  have a13 := blk_cell A0 13
  have f13 := blk_free A0 13
  have a14 := blk_cell A0 14
  have f14 := blk_free A0 14
  have a15 := blk_cell A0 15
  have f15 := blk_free A0 15
  simp only [List.getElem?_toArray, List.getElem?_cons_succ, List.getElem?_cons_zero] at a0 a1 a2 a3 a4 a5 a6 a7 a8 a9 a10 a11 a12 a13 a14 a15
  have l0 := blk_lt A0
  have HA0 := Lib.hid A0
  have HG0 := Lib.hid G0
  clear A0 G0
  go_wp2_with fail
  refine (KB.out _ HG0.out).mono ?_
  rintro e w1 ⟨rfl, g1⟩
  have A1 := old0 g1 HA0.out (blk_lt HA0.out) (by simp)
  have G1 := gb_trans HG0.out g1
  clear g1 HA0 HG0
  clear a0 f0 a1 f1 a2 f2 a3 f3 a4 f4 a5 f5 a6 f6 a7 f7 a8 f8 a9 f9 a10 f10 a11 f11 a12 f12 a13 f13 a14 f14 a15 f15 l0
  have HA1 := Lib.hid A1
  have HG1 := Lib.hid G1
  clear A1 G1
  go_wp2_with fail
  refine (KD.out _).mono ?_
  rintro e w2 ⟨rfl, g2⟩
  have ga := gb_trans g2 (World.grownBy_alloc w2 (.cells #[.int .i64 S, .int .i64 X, .int .i64 Y, .bool tp, .int .i64 D, .int .i64 M, .int .i64 C, .int .i64 m0, .int .i64 m1, .int .i64 m2, .int .i64 m3, .int .i64 0, .int .i64 q, .int .i64 0, .int .i64 0] 37) none)
  have A3 := old0 ga HA1.out (blk_lt HA1.out) (by simp)
  have G3 := gb_trans HG1.out ga
  have D3 : (w2.alloc (.cells #[.int .i64 S, .int .i64 X, .int .i64 Y, .bool tp, .int .i64 D, .int .i64 M, .int .i64 C, .int .i64 m0, .int .i64 m1, .int .i64 m2, .int .i64 m3, .int .i64 0, .int .i64 q, .int .i64 0, .int .i64 0] 37)).heap[w2.heap.size]? = some (.cells #[.int .i64 S, .int .i64 X, .int .i64 Y, .bool tp, .int .i64 D, .int .i64 M, .int .i64 C, .int .i64 m0, .int .i64 m1, .int .i64 m2, .int .i64 m3, .int .i64 0, .int .i64 q, .int .i64 0, .int .i64 0] 37 (0, 0)) := blk_at
  have hlt3 : W.heap.size < w2.heap.size := Nat.lt_of_lt_of_le (blk_lt HA1.out) g2.size
  clear g2 ga HA1 HG1
  go_upto_region 5 with fail
  obtain ⟨db, hdb⟩ : ∃ k, w2.heap.size = k := ⟨_, rfl⟩
  rw [hdb] at D3 hlt3 ⊢
  generalize w2.alloc (.cells #[.int .i64 S, .int .i64 X, .int .i64 Y, .bool tp, .int .i64 D, .int .i64 M, .int .i64 C, .int .i64 m0, .int .i64 m1, .int .i64 m2, .int .i64 m3, .int .i64 0, .int .i64 q, .int .i64 0, .int .i64 0] 37) = w3 at A3 D3 G3 ⊢
  clear hdb
  have a0 := blk_cell A3 0
  have f0 := blk_free A3 0
  have a1 := blk_cell A3 1
  have f1 := blk_free A3 1
  have a2 := blk_cell A3 2
  have f2 := blk_free A3 2
  have a3 := blk_cell A3 3
  have f3 := blk_free A3 3
  have a4 := blk_cell A3 4
  have f4 := blk_free A3 4
  have a5 := blk_cell A3 5
  have f5 := blk_free A3 5
  have a6 := blk_cell A3 6
  have f6 := blk_free A3 6
  have a7 := blk_cell A3 7
  have f7 := blk_free A3 7
  have a8 := blk_cell A3 8
  have f8 := blk_free A3 8
  have a9 := blk_cell A3 9
  have f9 := blk_free A3 9
  have a10 := blk_cell A3 10
  have f10 := blk_free A3 10
  have a11 := blk_cell A3 11
  have f11 := blk_free A3 11
  have a12 := blk_cell A3 12
  have f12 := blk_free A3 12
  have a13 := blk_cell A3 13
  have f13 := blk_free A3 13
  have a14 := blk_cell A3 14
  have f14 := blk_free A3 14
  have a15 := blk_cell A3 15
  have f15 := blk_free A3 15
  simp only [List.getElem?_toArray, List.getElem?_cons_succ, List.getElem?_cons_zero] at a0 a1 a2 a3 a4 a5 a6 a7 a8 a9 a10 a11 a12 a13 a14 a15
  have l0 := blk_lt A3
  go_upto_region 6 with fail
  refine abs_w (R := fun w => w.heap[W.heap.size]? = some (.cells #[.int .i64 S, .int .i64 X, .int .i64 Y, .bool tp, .int .i64 D, .int .i64 M, .int .i64 C, .int .i64 v0, .int .i64 v1, .int .i64 v2, .int .i64 v3, .int .i64 v4, .int .i64 v5, .int .i64 v6, .int .i64 v7, .int .i64 0] 31 (0, 0)) ∧ w.heap[db]? = some (.cells #[.int .i64 S, .int .i64 X, .int .i64 Y, .bool tp, .int .i64 D, .int .i64 M, .int .i64 C, .int .i64 m0, .int .i64 m1, .int .i64 m2, .int .i64 m3, .int .i64 0, .int .i64 q, .int .i64 0, .int .i64 0] 37 (0, 0)) ∧ W.grownBy w none) ⟨?_, ?_, ?_⟩ (fun w4 I4 => ?_)
  · exact blk_set A3 15 (.int .i64 0)
  · exact blk_other D3 (by omega)
  · exact gb_own G3 (Nat.le_refl _) (gb_set _ _ _ _)
  obtain ⟨A4, D4, G4⟩ := I4
  clear A3 D3 G3
  clear a0 f0 a1 f1 a2 f2 a3 f3 a4 f4 a5 f5 a6 f6 a7 f7 a8 f8 a9 f9 a10 f10 a11 f11 a12 f12 a13 f13 a14 f14 a15 f15 l0
  have a0 := blk_cell A4 0
  have a1 := blk_cell A4 1
  have a2 := blk_cell A4 2
  have a3 := blk_cell A4 3
  have a4 := blk_cell A4 4
  have a5 := blk_cell A4 5
  have a6 := blk_cell A4 6
  have a7 := blk_cell A4 7
  have a8 := blk_cell A4 8
  have a9 := blk_cell A4 9
  have a10 := blk_cell A4 10
  have a11 := blk_cell A4 11
  have a12 := blk_cell A4 12
  have a13 := blk_cell A4 13
  have a14 := blk_cell A4 14
  have a15 := blk_cell A4 15
  simp only [List.getElem?_toArray, List.getElem?_cons_succ, List.getElem?_cons_zero] at a0 a1 a2 a3 a4 a5 a6 a7 a8 a9 a10 a11 a12 a13 a14 a15
  have d0 := blk_cell D4 0
  have d1 := blk_cell D4 1
  have d2 := blk_cell D4 2
  have d3 := blk_cell D4 3
  have d4 := blk_cell D4 4
  have d5 := blk_cell D4 5
  have d6 := blk_cell D4 6
  have d7 := blk_cell D4 7
  have d8 := blk_cell D4 8
  have d9 := blk_cell D4 9
  have d10 := blk_cell D4 10
  have d11 := blk_cell D4 11
  have d12 := blk_cell D4 12
  have d13 := blk_cell D4 13
  have d14 := blk_cell D4 14
  simp only [List.getElem?_toArray, List.getElem?_cons_succ, List.getElem?_cons_zero] at d0 d1 d2 d3 d4 d5 d6 d7 d8 d9 d10 d11 d12 d13 d14
  have HG4 := Lib.hid G4
  have HD4 := Lib.hid D4
  clear A4 D4 G4
  go_wp2_with fail
  refine (KS.out _).mono ?_
  rintro e w5 ⟨rfl, g5⟩
  have D5 := blk_cell (old0 g5 HD4.out (blk_lt HD4.out) (by simp)) 12
  simp only [List.getElem?_toArray, List.getElem?_cons_succ, List.getElem?_cons_zero] at D5
  have HG5 := Lib.hid (gb_trans HG4.out g5)
  clear g5 HG4 HD4
  go_wp2_with fail
  refine (KA.out _).mono ?_
  rintro e w6 ⟨rfl, g6⟩
  have HG6 := Lib.hid (gb_trans HG5.out g6)
  clear g6
  go_wp2
  go_ret
  exact ⟨rfl, HG6.out⟩

end Go.Proofs.YtikjfmpdfeaooaaDoor.Dh

/- Layer 20: the law DibheadBytes (written by wip/gen/dbl.py). -/
namespace Go.Proofs.YtikjfmpdfeaooaaDoor.Dh
open Go.ChangeShapes Go.WideShapes Go.ChangeAt Go.RowKit
open Go.Proofs.YtikjfmpdfeaooaaDoor.Le Go.Proofs.YtikjfmpdfeaooaaDoor.Sr Go.Proofs.YtikjfmpdfeaooaaDoor.Ma
set_option linter.unusedVariables false

/-- What a read head is, told of the bytes of any head. -/
theorem lawb_any (S X Y : Int) (tp : Bool) (D M C v0 v1 v2 v3 v4 v5 v6 v7 fr : Int) (W : World) (b0 : v0 ≤ 9223372036854775807) (b2 : v2 ≤ 9223372036854775807) (b4 : v4 ≤ 9223372036854775807) (hlt : 0 < W.heap.size) (hT : Tab W) :
    Calls Tryd.prog 4 #[.agg #[.int .i64 S, .int .i64 X, .int .i64 Y, .bool tp, .int .i64 D, .int .i64 M, .int .i64 C, .int .i64 v0, .int .i64 v1, .int .i64 v2, .int .i64 v3, .int .i64 v4, .int .i64 v5, .int .i64 v6, .int .i64 v7, .int .i64 fr]] W fun e w' => e = .returned (.bool true) ∧ W.grownBy w' none := by
  by_cases hS : S = 40
  · subst hS
    obtain ⟨r0, r0b, K0⟩ := word_any v0 v1 b0
    obtain ⟨r1, r1b, K1⟩ := word_any v2 v3 b2
    obtain ⟨r2, r2b, K2⟩ := word_any v4 v5 b4
    obtain ⟨B, hBs, KX⟩ : ∃ B : ByteArray, B.size = (if M = 3 then 52 else 40) ∧ ∀ u, Calls Tryd.prog 40 #[.agg #[.int .i64 40, .int .i64 X, .int .i64 Y, .bool tp, .int .i64 D, .int .i64 M, .int .i64 C, .int .i64 v0, .int .i64 v1, .int .i64 v2, .int .i64 v3, .int .i64 v4, .int .i64 v5, .int .i64 v6, .int .i64 v7, .int .i64 fr]] u fun e w' => e = .returned (.string B) ∧ u.grownBy w' none := by
      by_cases hM : M = 3
      · subst hM
        exact ⟨⟨(txC 40 X Y tp D C r0 r1 r2).toArray⟩, by rw [if_pos rfl]; show (txC 40 X Y tp D C r0 r1 r2).toArray.size = 52; rw [List.size_toArray, txC_len], fun u => text_masked 40 X Y D C fr tp v0 v1 v2 v3 v4 v5 v6 v7 u r0 r1 r2 K0 K1 K2⟩
      · exact ⟨⟨(txB 40 40 X Y tp D M C).toArray⟩, by rw [if_neg hM]; show (txB 40 40 X Y tp D M C).toArray.size = 40; rw [List.size_toArray, txB_len], fun u => text_plain 40 X Y D M C fr tp v0 v1 v2 v3 v4 v5 v6 v7 u hM⟩
    have hB1 : B.size ≤ 52 := by rw [hBs]; split <;> omega
    have lift : ∀ u, W.grownBy u none → 0 < u.heap.size ∧ Tab u := fun u g => ⟨Nat.lt_of_lt_of_le hlt g.size, hT.grown hlt g⟩
    rcases read_bothX B 0 0 (LW 3 0) (GW.lw (by decide) (by decide) (by decide) (by decide)) (by omega) (by omega) with ⟨kk, a0, q, y, k1, k3, KC, KD⟩ | ⟨S', X', Y', D', M', C', tp', s, n, q, y, GHh, hpk, ho, q1, q2, hy, hq40, MWh, KC, KD⟩
    · refine lawb_err 40 X Y tp D M C v0 v1 v2 v3 v4 v5 v6 v7 fr W (fun u g => ?_)
      exact bytes_bad B X Y tp D M C v0 v1 v2 v3 v4 v5 v6 v7 fr 0 0 0 false 0 0 0 0 0 0 0 0 0 0 0 0 u KX (fun u2 g2 => told_vals B (by omega) 0 0 0 false 0 0 0 0 0 0 0 0 0 0 0 0 kk a0 false (by rw [beq_eq_false_iff_ne]; omega) q y u2 (lift u2 (gb_trans g g2)).1 (lift u2 (gb_trans g g2)).2 KC)
    · have KT : ∀ u, W.grownBy u none → ∀ u2, u.grownBy u2 none → _ := fun u g u2 g2 => told_vals B (by omega) S' X' Y' tp' D' M' C' (s 0 : Nat) (n 0 : Nat) (s 1 : Nat) (n 1 : Nat) (s 2 : Nat) (n 2 : Nat) (s 3 : Nat) (n 3 : Nat) ((0 : Nat) : Int) 0 0 true rfl q y u2 (lift u2 (gb_trans g g2)).1 (lift u2 (gb_trans g g2)).2 KC
      by_cases he : S' = 40 ∧ X' = X ∧ Y' = Y ∧ tp' = tp ∧ D' = D ∧ M' = M ∧ C' = C ∧ ((s 0 : Nat) : Int) = v0 ∧ ((n 0 : Nat) : Int) = v1 ∧ ((s 1 : Nat) : Int) = v2 ∧ ((n 1 : Nat) : Int) = v3 ∧ ((s 2 : Nat) : Int) = v4 ∧ ((n 2 : Nat) : Int) = v5 ∧ ((s 3 : Nat) : Int) = v6 ∧ ((n 3 : Nat) : Int) = v7 ∧ ((0 : Nat) : Int) = 0
      · obtain ⟨rfl, rfl, rfl, rfl, rfl, rfl, rfl, e0, e1, e2, e3, e4, e5, e6, e7, _⟩ := he
        have hqB : q = B.size := by rw [hq40 rfl, hBs]; omega
        subst hqB
        refine lawb_ok 40 X' Y' tp' D' M' C' v0 v1 v2 v3 v4 v5 v6 v7 fr (maskW (s 0) (n 0) : Nat) (maskW (s 1) (n 1) : Nat) (maskW (s 2) (n 2) : Nat) (maskW (s 3) (n 3) : Nat) (B.size : Nat) B rfl W (fun u g => ?_) (fun u => KD u) (fun u => ?_)
        · refine bytes_good B X' Y' tp' D' M' C' v0 v1 v2 v3 v4 v5 v6 v7 fr u KX (fun u2 g2 => ?_)
          have R := KT u g u2 g2
          rw [e0, e1, e2, e3, e4, e5, e6, e7] at R
          exact R
        · have R := same_calls 40 X' Y' D' M' C' 0 (B.size : Nat) tp' s n ho u
          rw [e0, e1, e2, e3, e4, e5, e6, e7] at R
          exact R
      · refine lawb_err 40 X Y tp D M C v0 v1 v2 v3 v4 v5 v6 v7 fr W (fun u g => ?_)
        exact bytes_other B X Y tp D M C v0 v1 v2 v3 v4 v5 v6 v7 fr S' X' Y' tp' D' M' C' (s 0 : Nat) (n 0 : Nat) (s 1 : Nat) (n 1 : Nat) (s 2 : Nat) (n 2 : Nat) (s 3 : Nat) (n 3 : Nat) ((0 : Nat) : Int) he u KX (fun u2 g2 => KT u g u2 g2)
  · exact lawb_err S X Y tp D M C v0 v1 v2 v3 v4 v5 v6 v7 fr W (fun u g => bytes_size S X Y tp D M C v0 v1 v2 v3 v4 v5 v6 v7 fr u hS)

end Go.Proofs.YtikjfmpdfeaooaaDoor.Dh
