/- The law RasterImages, walked. -/
import Derived.Test.YthgpjdnppknghaaRim5
namespace Go.Proofs.Ythgpjdnppknghaa.Ra
open Go.ChangeShapes Go.WideShapes Go.ChangeAt Go.RowKit
open Go.Proofs.Ythgpjdnppknghaa.Le Go.Proofs.Ythgpjdnppknghaa.Bu Go.Proofs.Ythgpjdnppknghaa.Nu
set_option linter.unusedVariables false

/-- What stays while images are asked: two boxes, a colour's box. -/
structure Bl (w : World) (qa qb qc : Nat) (A B C : Array Value) (u : World) : Prop where
  a : u.heap[qa]? = some (.cells A 48 (0, 0))
  b : u.heap[qb]? = some (.cells B 48 (0, 0))
  c : u.heap[qc]? = some (.cells C 50 (0, 0))
  g : w.grownBy u none
theorem Bl.go {w : World} {qa qb qc : Nat} {A B C : Array Value} {u v : World} (h : Bl w qa qb qc A B C u) (g : u.grownBy v none) : Bl w qa qb qc A B C v :=
  ⟨(g.block _ (blk_lt h.a) (by simp)).trans h.a, (g.block _ (blk_lt h.b) (by simp)).trans h.b, (g.block _ (blk_lt h.c) (by simp)).trans h.c, gb_trans h.g g⟩

theorem ri_far (X Y x y X2 Y2 : Int) (a a2 : Option Addr) (n c n2 c2 : Nat) (w : World) (h : 2000 < n ∨ 2000 < n2) :
    Calls Try.prog 6 #[.agg #[.int .i64 X, .int .i64 Y, .slice a n c], .agg #[.int .i64 X2, .int .i64 Y2, .slice a2 n2 c2], .int .i64 x, .int .i64 y] w fun e w' => e = .returned (.bool true) ∧ w.grownBy w' none := by
  have KW := Lib.hid (fun w => awake_calls w)
  by_cases h1 : 2000 < n
  · have h1' : (2000 : Int) < (n : Int) := by omega
    clear h
    go_enter Try.func6, Try.ntmps6
    go_wp2_with fail
    refine (KW.out _).mono ?_
    rintro e w9 ⟨rfl, g9⟩
    have G9 := Lib.hid (gb_trans (gb_trans (World.grownBy_alloc _ _ _) (World.grownBy_alloc _ _ _)) g9)
    clear g9
    go_wp2
    go_ret
    exact ⟨rfl, G9.out⟩
  · have h1' : (n : Int) ≤ 2000 := by omega
    have h2' : (2000 : Int) < (n2 : Int) := by omega
    clear h
    go_enter Try.func6, Try.ntmps6
    go_wp2_with fail
    refine (KW.out _).mono ?_
    rintro e w9 ⟨rfl, g9⟩
    have G9 := Lib.hid (gb_trans (gb_trans (World.grownBy_alloc _ _ _) (World.grownBy_alloc _ _ _)) g9)
    clear g9
    go_wp2
    go_ret
    exact ⟨rfl, G9.out⟩

set_option maxRecDepth 100000 in
set_option maxHeartbeats 2000000 in
theorem ri_wrong (X Y x y X2 Y2 : Int) (a a2 : Option Addr) (n c n2 c2 : Nat) (S : ByteArray) (sb : Bool) (w : World) (hn : n ≤ 2000) (hn2 : n2 ≤ 2000)
    (KR : Hid (∀ u, Calls Try.prog 28 #[.agg #[.int .i64 X, .int .i64 Y, .slice a n c]] u fun e w' => e = .returned (.bool false) ∧ u.grownBy w' none))
    (KRR : Hid (∀ u, Calls Try.prog 29 #[.agg #[.int .i64 X, .int .i64 Y, .slice a n c]] u fun e w' => e = .returned (.bool false) ∧ u.grownBy w' none))
    (KS : Hid (∀ u, w.grownBy u none → Calls Try.prog 30 #[.agg #[.int .i64 X, .int .i64 Y, .slice a n c], .agg #[.int .i64 X2, .int .i64 Y2, .slice a2 n2 c2]] u fun e w' => e = .returned (.bool sb) ∧ u.grownBy w' none))
    (KRS : Hid (∀ u, w.grownBy u none → Calls Try.prog 31 #[.agg #[.int .i64 X, .int .i64 Y, .slice a n c], .agg #[.int .i64 X2, .int .i64 Y2, .slice a2 n2 c2]] u fun e w' => e = .returned (.bool sb) ∧ u.grownBy w' none))
    (KC : Hid (∀ u, w.grownBy u none → Calls Try.prog 32 #[.agg #[.int .i64 X, .int .i64 Y, .slice a n c]] u fun e w' => ∃ a' c', e = .returned (.agg #[.int .i64 X, .int .i64 Y, .slice a' n c']) ∧ Bx a' S w' ∧ u.grownBy w' none))
    (KRC : Hid (∀ u a' c', Bx a' S u → w.grownBy u none → Calls Try.prog 31 #[.agg #[.int .i64 X, .int .i64 Y, .slice a' n c'], .agg #[.int .i64 X, .int .i64 Y, .slice a n c]] u fun e w' => e = .returned (.bool true) ∧ u.grownBy w' none))
    (KP : Hid (∀ u, w.grownBy u none → Calls Try.prog 27 #[.agg #[.int .i64 X, .int .i64 Y, .slice a n c], .int .i64 x, .int .i64 y] u fun e w' => e = .returned (.tuple #[.agg #[.int .u8 0, .int .u8 0, .int .u8 0, .int .u8 0], .bool false]) ∧ u.grownBy w' none))  :
    Calls Try.prog 6 #[.agg #[.int .i64 X, .int .i64 Y, .slice a n c], .agg #[.int .i64 X2, .int .i64 Y2, .slice a2 n2 c2], .int .i64 x, .int .i64 y] w fun e w' => e = .returned (.bool true) ∧ w.grownBy w' none := by
  have KW := Lib.hid (fun w => awake_calls w)
  have hn' : (n : Int) ≤ 2000 := by omega
  have hn2' : (n2 : Int) ≤ 2000 := by omega
  go_enter Try.func6, Try.ntmps6
  go_wp2_with fail
  have PA := Lib.hid (show ((w.alloc (.cells #[.int .i64 X, .int .i64 Y, .slice a n c] 48)).alloc (.cells #[.int .i64 X2, .int .i64 Y2, .slice a2 n2 c2] 48)).heap[w.heap.size]? = some (.cells #[.int .i64 X, .int .i64 Y, .slice a n c] 48 (0, 0)) from blk_al blk_at _)
  have PB := Lib.hid (show ((w.alloc (.cells #[.int .i64 X, .int .i64 Y, .slice a n c] 48)).alloc (.cells #[.int .i64 X2, .int .i64 Y2, .slice a2 n2 c2] 48)).heap[w.heap.size + 1]? = some (.cells #[.int .i64 X2, .int .i64 Y2, .slice a2 n2 c2] 48 (0, 0)) from by
    rw [← size_alloc w (.cells #[.int .i64 X, .int .i64 Y, .slice a n c] 48)]
    exact blk_at)
  have PG := Lib.hid (show w.grownBy ((w.alloc (.cells #[.int .i64 X, .int .i64 Y, .slice a n c] 48)).alloc (.cells #[.int .i64 X2, .int .i64 Y2, .slice a2 n2 c2] 48)) none from gb_trans (World.grownBy_alloc _ _ _) (World.grownBy_alloc _ _ _))
  refine (KP.out _ PG.out).mono ?_
  rintro e w1 ⟨rfl, g1⟩
  have PA1 := (g1.block _ (blk_lt PA.out) (by simp)).trans PA.out
  have e0 := blk_cell PA1 0
  have e1 := blk_cell PA1 1
  have e2 := blk_cell PA1 2
  have PB1 := (g1.block _ (blk_lt PB.out) (by simp)).trans PB.out
  have e3 := blk_cell PB1 0
  have e4 := blk_cell PB1 1
  have e5 := blk_cell PB1 2
  simp only [List.getElem?_toArray, List.getElem?_cons_succ, List.getElem?_cons_zero] at e0 e1 e2 e3 e4 e5
  have B1 : Bl w w.heap.size (w.heap.size + 1) w1.heap.size #[.int .i64 X, .int .i64 Y, .slice a n c] #[.int .i64 X2, .int .i64 Y2, .slice a2 n2 c2] #[.int .u8 0, .int .u8 0, .int .u8 0, .int .u8 0] (w1.alloc (.cells #[.int .u8 0, .int .u8 0, .int .u8 0, .int .u8 0] 50)) :=
    ⟨blk_al PA1 _, blk_al PB1 _, blk_at, gb_trans (gb_trans PG.out g1) (World.grownBy_alloc _ _ _)⟩
  clear g1 PA1 PB1 PA PB PG
  go_wp2_with fail
  generalize w1.alloc (.cells #[.int .u8 0, .int .u8 0, .int .u8 0, .int .u8 0] 50) = w2 at B1 ⊢
  clear e0 e1 e2 e3 e4 e5
  have D2 := Lib.hid (B1.go (gb_drew _ none))
  have e0 := blk_cell B1.a 0
  have e1 := blk_cell B1.a 1
  have e2 := blk_cell B1.a 2
  have e3 := blk_cell B1.b 0
  have e4 := blk_cell B1.b 1
  have e5 := blk_cell B1.b 2
  simp only [List.getElem?_toArray, List.getElem?_cons_succ, List.getElem?_cons_zero] at e0 e1 e2 e3 e4 e5
  clear B1
  go_region_held3 (fun w' => w'.cell? ⟨w.heap.size, 0, none⟩ = some (.int .i64 X) ∧ w'.cell? ⟨w.heap.size, 1, none⟩ = some (.int .i64 Y) ∧ w'.cell? ⟨w.heap.size, 2, none⟩ = some (.slice a n c) ∧ w'.cell? ⟨w.heap.size + 1, 0, none⟩ = some (.int .i64 X2) ∧ w'.cell? ⟨w.heap.size + 1, 1, none⟩ = some (.int .i64 Y2) ∧ w'.cell? ⟨w.heap.size + 1, 2, none⟩ = some (.slice a2 n2 c2)) (go_keep) (first | (go_at_call 28; refine (KR.out _).mono ?_; rintro e w3 ⟨rfl, g3⟩; have D3 := Lib.hid (D2.out.go g3); have k3_0 : w3.cell? ⟨w.heap.size, 0, none⟩ = some (.int .i64 X) := blk_cell D3.out.a 0; have k3_1 : w3.cell? ⟨w.heap.size, 1, none⟩ = some (.int .i64 Y) := blk_cell D3.out.a 1; have k3_2 : w3.cell? ⟨w.heap.size, 2, none⟩ = some (.slice a n c) := blk_cell D3.out.a 2; have k3_3 : w3.cell? ⟨w.heap.size + 1, 0, none⟩ = some (.int .i64 X2) := blk_cell D3.out.b 0; have k3_4 : w3.cell? ⟨w.heap.size + 1, 1, none⟩ = some (.int .i64 Y2) := blk_cell D3.out.b 1; have k3_5 : w3.cell? ⟨w.heap.size + 1, 2, none⟩ = some (.slice a2 n2 c2) := blk_cell D3.out.b 2; clear g3) | (go_at_call 29; refine (KRR.out _).mono ?_; rintro e w4 ⟨rfl, g4⟩; have D4 := Lib.hid (D3.out.go g4); have k4_0 : w4.cell? ⟨w.heap.size, 0, none⟩ = some (.int .i64 X) := blk_cell D4.out.a 0; have k4_1 : w4.cell? ⟨w.heap.size, 1, none⟩ = some (.int .i64 Y) := blk_cell D4.out.a 1; have k4_2 : w4.cell? ⟨w.heap.size, 2, none⟩ = some (.slice a n c) := blk_cell D4.out.a 2; have k4_3 : w4.cell? ⟨w.heap.size + 1, 0, none⟩ = some (.int .i64 X2) := blk_cell D4.out.b 0; have k4_4 : w4.cell? ⟨w.heap.size + 1, 1, none⟩ = some (.int .i64 Y2) := blk_cell D4.out.b 1; have k4_5 : w4.cell? ⟨w.heap.size + 1, 2, none⟩ = some (.slice a2 n2 c2) := blk_cell D4.out.b 2; clear g4) | (go_at_call 30; refine (KS.out _ D4.out.g).mono ?_; rintro e w5 ⟨rfl, g5⟩; have D5 := Lib.hid (D4.out.go g5); have k5_0 : w5.cell? ⟨w.heap.size, 0, none⟩ = some (.int .i64 X) := blk_cell D5.out.a 0; have k5_1 : w5.cell? ⟨w.heap.size, 1, none⟩ = some (.int .i64 Y) := blk_cell D5.out.a 1; have k5_2 : w5.cell? ⟨w.heap.size, 2, none⟩ = some (.slice a n c) := blk_cell D5.out.a 2; have k5_3 : w5.cell? ⟨w.heap.size + 1, 0, none⟩ = some (.int .i64 X2) := blk_cell D5.out.b 0; have k5_4 : w5.cell? ⟨w.heap.size + 1, 1, none⟩ = some (.int .i64 Y2) := blk_cell D5.out.b 1; have k5_5 : w5.cell? ⟨w.heap.size + 1, 2, none⟩ = some (.slice a2 n2 c2) := blk_cell D5.out.b 2; clear g5) | (go_at_call 31; refine (KRC.out _ _ _ HBX.out D7.out.g).mono ?_; rintro e w8 ⟨rfl, g8⟩; have D8 := Lib.hid (D7.out.go g8); have k8_0 : w8.cell? ⟨w.heap.size, 0, none⟩ = some (.int .i64 X) := blk_cell D8.out.a 0; have k8_1 : w8.cell? ⟨w.heap.size, 1, none⟩ = some (.int .i64 Y) := blk_cell D8.out.a 1; have k8_2 : w8.cell? ⟨w.heap.size, 2, none⟩ = some (.slice a n c) := blk_cell D8.out.a 2; have k8_3 : w8.cell? ⟨w.heap.size + 1, 0, none⟩ = some (.int .i64 X2) := blk_cell D8.out.b 0; have k8_4 : w8.cell? ⟨w.heap.size + 1, 1, none⟩ = some (.int .i64 Y2) := blk_cell D8.out.b 1; have k8_5 : w8.cell? ⟨w.heap.size + 1, 2, none⟩ = some (.slice a2 n2 c2) := blk_cell D8.out.b 2; clear g8) | (go_at_call 31; refine (KRS.out _ D5.out.g).mono ?_; rintro e w6 ⟨rfl, g6⟩; have D6 := Lib.hid (D5.out.go g6); have k6_0 : w6.cell? ⟨w.heap.size, 0, none⟩ = some (.int .i64 X) := blk_cell D6.out.a 0; have k6_1 : w6.cell? ⟨w.heap.size, 1, none⟩ = some (.int .i64 Y) := blk_cell D6.out.a 1; have k6_2 : w6.cell? ⟨w.heap.size, 2, none⟩ = some (.slice a n c) := blk_cell D6.out.a 2; have k6_3 : w6.cell? ⟨w.heap.size + 1, 0, none⟩ = some (.int .i64 X2) := blk_cell D6.out.b 0; have k6_4 : w6.cell? ⟨w.heap.size + 1, 1, none⟩ = some (.int .i64 Y2) := blk_cell D6.out.b 1; have k6_5 : w6.cell? ⟨w.heap.size + 1, 2, none⟩ = some (.slice a2 n2 c2) := blk_cell D6.out.b 2; clear g6) | (go_at_call 32; refine (KC.out _ D6.out.g).mono ?_; rintro e w7 ⟨a', c', rfl, hbx, g7⟩; have D7 := Lib.hid (D6.out.go g7); have k7_0 : w7.cell? ⟨w.heap.size, 0, none⟩ = some (.int .i64 X) := blk_cell D7.out.a 0; have k7_1 : w7.cell? ⟨w.heap.size, 1, none⟩ = some (.int .i64 Y) := blk_cell D7.out.a 1; have k7_2 : w7.cell? ⟨w.heap.size, 2, none⟩ = some (.slice a n c) := blk_cell D7.out.a 2; have k7_3 : w7.cell? ⟨w.heap.size + 1, 0, none⟩ = some (.int .i64 X2) := blk_cell D7.out.b 0; have k7_4 : w7.cell? ⟨w.heap.size + 1, 1, none⟩ = some (.int .i64 Y2) := blk_cell D7.out.b 1; have k7_5 : w7.cell? ⟨w.heap.size + 1, 2, none⟩ = some (.slice a2 n2 c2) := blk_cell D7.out.b 2; have HBX := Lib.hid hbx; clear hbx; clear g7))
  go_wp2_with fail
  refine (KRR.out _).mono ?_
  rintro e w9 ⟨rfl, g9⟩
  have D9 := Lib.hid (D8.out.go g9)
  have x0 := blk_cell D9.out.c 0
  have x1 := blk_cell D9.out.c 1
  have x2 := blk_cell D9.out.c 2
  have x3 := blk_cell D9.out.c 3
  have y0 : w9.cell? ⟨w.heap.size, 0, none⟩ = some (.int .i64 X) := blk_cell D9.out.a 0
  have y1 : w9.cell? ⟨w.heap.size, 1, none⟩ = some (.int .i64 Y) := blk_cell D9.out.a 1
  simp only [List.getElem?_toArray, List.getElem?_cons_succ, List.getElem?_cons_zero] at x0 x1 x2 x3
  clear g9
  go_wp2_with fail
  refine (KW.out _).mono ?_
  rintro e w10 ⟨rfl, g10⟩
  have G10 := Lib.hid (gb_trans D9.out.g g10)
  clear g10
  go_wp2
  go_ret
  exact ⟨rfl, G10.out⟩

set_option maxRecDepth 100000 in
set_option maxHeartbeats 2000000 in
theorem ri_yes (z0 z1 z2 z3 X Y x y X2 Y2 : Int) (a a2 : Option Addr) (n c n2 c2 : Nat) (S : ByteArray) (sb : Bool) (w : World) (hn : n ≤ 2000) (hn2 : n2 ≤ 2000)
    (KR : Hid (∀ u, Calls Try.prog 28 #[.agg #[.int .i64 X, .int .i64 Y, .slice a n c]] u fun e w' => e = .returned (.bool true) ∧ u.grownBy w' none))
    (KRR : Hid (∀ u, Calls Try.prog 29 #[.agg #[.int .i64 X, .int .i64 Y, .slice a n c]] u fun e w' => e = .returned (.bool true) ∧ u.grownBy w' none))
    (KS : Hid (∀ u, w.grownBy u none → Calls Try.prog 30 #[.agg #[.int .i64 X, .int .i64 Y, .slice a n c], .agg #[.int .i64 X2, .int .i64 Y2, .slice a2 n2 c2]] u fun e w' => e = .returned (.bool sb) ∧ u.grownBy w' none))
    (KRS : Hid (∀ u, w.grownBy u none → Calls Try.prog 31 #[.agg #[.int .i64 X, .int .i64 Y, .slice a n c], .agg #[.int .i64 X2, .int .i64 Y2, .slice a2 n2 c2]] u fun e w' => e = .returned (.bool sb) ∧ u.grownBy w' none))
    (KC : Hid (∀ u, w.grownBy u none → Calls Try.prog 32 #[.agg #[.int .i64 X, .int .i64 Y, .slice a n c]] u fun e w' => ∃ a' c', e = .returned (.agg #[.int .i64 X, .int .i64 Y, .slice a' n c']) ∧ Bx a' S w' ∧ u.grownBy w' none))
    (KRC : Hid (∀ u a' c', Bx a' S u → w.grownBy u none → Calls Try.prog 31 #[.agg #[.int .i64 X, .int .i64 Y, .slice a' n c'], .agg #[.int .i64 X, .int .i64 Y, .slice a n c]] u fun e w' => e = .returned (.bool true) ∧ u.grownBy w' none))
    (KP : Hid (∀ u, w.grownBy u none → Calls Try.prog 27 #[.agg #[.int .i64 X, .int .i64 Y, .slice a n c], .int .i64 x, .int .i64 y] u fun e w' => e = .returned (.tuple #[.agg #[.int .u8 z0, .int .u8 z1, .int .u8 z2, .int .u8 z3], .bool true]) ∧ u.grownBy w' none))  (hx0 : 0 ≤ x) (hx : x < X) (hy0 : 0 ≤ y) (hy : y < Y)
    (KQ : Hid (∀ u, w.grownBy u none → Calls Try.prog 33 #[.agg #[.int .i64 X, .int .i64 Y, .slice a n c], .int .i64 x, .int .i64 y] u fun e w' => e = .returned (.agg #[.int .u8 z0, .int .u8 z1, .int .u8 z2, .int .u8 z3]) ∧ u.grownBy w' none)) :
    Calls Try.prog 6 #[.agg #[.int .i64 X, .int .i64 Y, .slice a n c], .agg #[.int .i64 X2, .int .i64 Y2, .slice a2 n2 c2], .int .i64 x, .int .i64 y] w fun e w' => e = .returned (.bool true) ∧ w.grownBy w' none := by
  have KW := Lib.hid (fun w => awake_calls w)
  have hn' : (n : Int) ≤ 2000 := by omega
  have hn2' : (n2 : Int) ≤ 2000 := by omega
  go_enter Try.func6, Try.ntmps6
  go_wp2_with fail
  have PA := Lib.hid (show ((w.alloc (.cells #[.int .i64 X, .int .i64 Y, .slice a n c] 48)).alloc (.cells #[.int .i64 X2, .int .i64 Y2, .slice a2 n2 c2] 48)).heap[w.heap.size]? = some (.cells #[.int .i64 X, .int .i64 Y, .slice a n c] 48 (0, 0)) from blk_al blk_at _)
  have PB := Lib.hid (show ((w.alloc (.cells #[.int .i64 X, .int .i64 Y, .slice a n c] 48)).alloc (.cells #[.int .i64 X2, .int .i64 Y2, .slice a2 n2 c2] 48)).heap[w.heap.size + 1]? = some (.cells #[.int .i64 X2, .int .i64 Y2, .slice a2 n2 c2] 48 (0, 0)) from by
    rw [← size_alloc w (.cells #[.int .i64 X, .int .i64 Y, .slice a n c] 48)]
    exact blk_at)
  have PG := Lib.hid (show w.grownBy ((w.alloc (.cells #[.int .i64 X, .int .i64 Y, .slice a n c] 48)).alloc (.cells #[.int .i64 X2, .int .i64 Y2, .slice a2 n2 c2] 48)) none from gb_trans (World.grownBy_alloc _ _ _) (World.grownBy_alloc _ _ _))
  refine (KP.out _ PG.out).mono ?_
  rintro e w1 ⟨rfl, g1⟩
  have PA1 := (g1.block _ (blk_lt PA.out) (by simp)).trans PA.out
  have e0 := blk_cell PA1 0
  have e1 := blk_cell PA1 1
  have e2 := blk_cell PA1 2
  have PB1 := (g1.block _ (blk_lt PB.out) (by simp)).trans PB.out
  have e3 := blk_cell PB1 0
  have e4 := blk_cell PB1 1
  have e5 := blk_cell PB1 2
  simp only [List.getElem?_toArray, List.getElem?_cons_succ, List.getElem?_cons_zero] at e0 e1 e2 e3 e4 e5
  have B1 : Bl w w.heap.size (w.heap.size + 1) w1.heap.size #[.int .i64 X, .int .i64 Y, .slice a n c] #[.int .i64 X2, .int .i64 Y2, .slice a2 n2 c2] #[.int .u8 z0, .int .u8 z1, .int .u8 z2, .int .u8 z3] (w1.alloc (.cells #[.int .u8 z0, .int .u8 z1, .int .u8 z2, .int .u8 z3] 50)) :=
    ⟨blk_al PA1 _, blk_al PB1 _, blk_at, gb_trans (gb_trans PG.out g1) (World.grownBy_alloc _ _ _)⟩
  clear g1 PA1 PB1 PA PB PG
  go_wp2_with fail
  generalize w1.alloc (.cells #[.int .u8 z0, .int .u8 z1, .int .u8 z2, .int .u8 z3] 50) = w2 at B1 ⊢
  clear e0 e1 e2 e3 e4 e5
  have D2 := Lib.hid (B1.go (gb_drew _ none))
  have e0 := blk_cell B1.a 0
  have e1 := blk_cell B1.a 1
  have e2 := blk_cell B1.a 2
  have e3 := blk_cell B1.b 0
  have e4 := blk_cell B1.b 1
  have e5 := blk_cell B1.b 2
  simp only [List.getElem?_toArray, List.getElem?_cons_succ, List.getElem?_cons_zero] at e0 e1 e2 e3 e4 e5
  clear B1
  go_region_held3 (fun w' => w'.cell? ⟨w.heap.size, 0, none⟩ = some (.int .i64 X) ∧ w'.cell? ⟨w.heap.size, 1, none⟩ = some (.int .i64 Y) ∧ w'.cell? ⟨w.heap.size, 2, none⟩ = some (.slice a n c) ∧ w'.cell? ⟨w.heap.size + 1, 0, none⟩ = some (.int .i64 X2) ∧ w'.cell? ⟨w.heap.size + 1, 1, none⟩ = some (.int .i64 Y2) ∧ w'.cell? ⟨w.heap.size + 1, 2, none⟩ = some (.slice a2 n2 c2)) (go_keep) (first | (go_at_call 28; refine (KR.out _).mono ?_; rintro e w3 ⟨rfl, g3⟩; have D3 := Lib.hid (D2.out.go g3); have k3_0 : w3.cell? ⟨w.heap.size, 0, none⟩ = some (.int .i64 X) := blk_cell D3.out.a 0; have k3_1 : w3.cell? ⟨w.heap.size, 1, none⟩ = some (.int .i64 Y) := blk_cell D3.out.a 1; have k3_2 : w3.cell? ⟨w.heap.size, 2, none⟩ = some (.slice a n c) := blk_cell D3.out.a 2; have k3_3 : w3.cell? ⟨w.heap.size + 1, 0, none⟩ = some (.int .i64 X2) := blk_cell D3.out.b 0; have k3_4 : w3.cell? ⟨w.heap.size + 1, 1, none⟩ = some (.int .i64 Y2) := blk_cell D3.out.b 1; have k3_5 : w3.cell? ⟨w.heap.size + 1, 2, none⟩ = some (.slice a2 n2 c2) := blk_cell D3.out.b 2; clear g3) | (go_at_call 29; refine (KRR.out _).mono ?_; rintro e w4 ⟨rfl, g4⟩; have D4 := Lib.hid (D3.out.go g4); have k4_0 : w4.cell? ⟨w.heap.size, 0, none⟩ = some (.int .i64 X) := blk_cell D4.out.a 0; have k4_1 : w4.cell? ⟨w.heap.size, 1, none⟩ = some (.int .i64 Y) := blk_cell D4.out.a 1; have k4_2 : w4.cell? ⟨w.heap.size, 2, none⟩ = some (.slice a n c) := blk_cell D4.out.a 2; have k4_3 : w4.cell? ⟨w.heap.size + 1, 0, none⟩ = some (.int .i64 X2) := blk_cell D4.out.b 0; have k4_4 : w4.cell? ⟨w.heap.size + 1, 1, none⟩ = some (.int .i64 Y2) := blk_cell D4.out.b 1; have k4_5 : w4.cell? ⟨w.heap.size + 1, 2, none⟩ = some (.slice a2 n2 c2) := blk_cell D4.out.b 2; clear g4) | (go_at_call 30; refine (KS.out _ D4.out.g).mono ?_; rintro e w5 ⟨rfl, g5⟩; have D5 := Lib.hid (D4.out.go g5); have k5_0 : w5.cell? ⟨w.heap.size, 0, none⟩ = some (.int .i64 X) := blk_cell D5.out.a 0; have k5_1 : w5.cell? ⟨w.heap.size, 1, none⟩ = some (.int .i64 Y) := blk_cell D5.out.a 1; have k5_2 : w5.cell? ⟨w.heap.size, 2, none⟩ = some (.slice a n c) := blk_cell D5.out.a 2; have k5_3 : w5.cell? ⟨w.heap.size + 1, 0, none⟩ = some (.int .i64 X2) := blk_cell D5.out.b 0; have k5_4 : w5.cell? ⟨w.heap.size + 1, 1, none⟩ = some (.int .i64 Y2) := blk_cell D5.out.b 1; have k5_5 : w5.cell? ⟨w.heap.size + 1, 2, none⟩ = some (.slice a2 n2 c2) := blk_cell D5.out.b 2; clear g5) | (go_at_call 31; refine (KRC.out _ _ _ HBX.out D7.out.g).mono ?_; rintro e w8 ⟨rfl, g8⟩; have D8 := Lib.hid (D7.out.go g8); have k8_0 : w8.cell? ⟨w.heap.size, 0, none⟩ = some (.int .i64 X) := blk_cell D8.out.a 0; have k8_1 : w8.cell? ⟨w.heap.size, 1, none⟩ = some (.int .i64 Y) := blk_cell D8.out.a 1; have k8_2 : w8.cell? ⟨w.heap.size, 2, none⟩ = some (.slice a n c) := blk_cell D8.out.a 2; have k8_3 : w8.cell? ⟨w.heap.size + 1, 0, none⟩ = some (.int .i64 X2) := blk_cell D8.out.b 0; have k8_4 : w8.cell? ⟨w.heap.size + 1, 1, none⟩ = some (.int .i64 Y2) := blk_cell D8.out.b 1; have k8_5 : w8.cell? ⟨w.heap.size + 1, 2, none⟩ = some (.slice a2 n2 c2) := blk_cell D8.out.b 2; clear g8) | (go_at_call 31; refine (KRS.out _ D5.out.g).mono ?_; rintro e w6 ⟨rfl, g6⟩; have D6 := Lib.hid (D5.out.go g6); have k6_0 : w6.cell? ⟨w.heap.size, 0, none⟩ = some (.int .i64 X) := blk_cell D6.out.a 0; have k6_1 : w6.cell? ⟨w.heap.size, 1, none⟩ = some (.int .i64 Y) := blk_cell D6.out.a 1; have k6_2 : w6.cell? ⟨w.heap.size, 2, none⟩ = some (.slice a n c) := blk_cell D6.out.a 2; have k6_3 : w6.cell? ⟨w.heap.size + 1, 0, none⟩ = some (.int .i64 X2) := blk_cell D6.out.b 0; have k6_4 : w6.cell? ⟨w.heap.size + 1, 1, none⟩ = some (.int .i64 Y2) := blk_cell D6.out.b 1; have k6_5 : w6.cell? ⟨w.heap.size + 1, 2, none⟩ = some (.slice a2 n2 c2) := blk_cell D6.out.b 2; clear g6) | (go_at_call 32; refine (KC.out _ D6.out.g).mono ?_; rintro e w7 ⟨a', c', rfl, hbx, g7⟩; have D7 := Lib.hid (D6.out.go g7); have k7_0 : w7.cell? ⟨w.heap.size, 0, none⟩ = some (.int .i64 X) := blk_cell D7.out.a 0; have k7_1 : w7.cell? ⟨w.heap.size, 1, none⟩ = some (.int .i64 Y) := blk_cell D7.out.a 1; have k7_2 : w7.cell? ⟨w.heap.size, 2, none⟩ = some (.slice a n c) := blk_cell D7.out.a 2; have k7_3 : w7.cell? ⟨w.heap.size + 1, 0, none⟩ = some (.int .i64 X2) := blk_cell D7.out.b 0; have k7_4 : w7.cell? ⟨w.heap.size + 1, 1, none⟩ = some (.int .i64 Y2) := blk_cell D7.out.b 1; have k7_5 : w7.cell? ⟨w.heap.size + 1, 2, none⟩ = some (.slice a2 n2 c2) := blk_cell D7.out.b 2; have HBX := Lib.hid hbx; clear hbx; clear g7))
  go_wp2_with fail
  refine (KRR.out _).mono ?_
  rintro e w9 ⟨rfl, g9⟩
  have D9 := Lib.hid (D8.out.go g9)
  have x0 := blk_cell D9.out.c 0
  have x1 := blk_cell D9.out.c 1
  have x2 := blk_cell D9.out.c 2
  have x3 := blk_cell D9.out.c 3
  have y0 : w9.cell? ⟨w.heap.size, 0, none⟩ = some (.int .i64 X) := blk_cell D9.out.a 0
  have y1 : w9.cell? ⟨w.heap.size, 1, none⟩ = some (.int .i64 Y) := blk_cell D9.out.a 1
  have y2 : w9.cell? ⟨w.heap.size, 2, none⟩ = some (.slice a n c) := blk_cell D9.out.a 2
  simp only [List.getElem?_toArray, List.getElem?_cons_succ, List.getElem?_cons_zero] at x0 x1 x2 x3
  clear g9
  go_wp2_with fail
  have E9 := Lib.hid (D9.out.go (gb_drew w9 none))
  obtain ⟨qc, hqc⟩ : ∃ q, w1.heap.size = q := ⟨_, rfl⟩
  rw [hqc] at x0 x1 x2 x3 E9
  simp only [hqc]
  clear hqc
  go_region_held3 (fun w' => w'.cell? ⟨w.heap.size, 0, none⟩ = some (.int .i64 X) ∧ w'.cell? ⟨w.heap.size, 1, none⟩ = some (.int .i64 Y) ∧ w'.cell? ⟨w.heap.size, 2, none⟩ = some (.slice a n c) ∧ w'.cell? ⟨qc, 0, none⟩ = some (.int .u8 z0) ∧ w'.cell? ⟨qc, 1, none⟩ = some (.int .u8 z1) ∧ w'.cell? ⟨qc, 2, none⟩ = some (.int .u8 z2) ∧ w'.cell? ⟨qc, 3, none⟩ = some (.int .u8 z3)) (go_keep)
    (first | (go_at_call 33; refine (KQ.out _ E9.out.g).mono ?_; rintro e w10 ⟨rfl, g10⟩; have D10 := Lib.hid (E9.out.go g10); have m0 : w10.cell? ⟨w.heap.size, 0, none⟩ = some (.int .i64 X) := blk_cell D10.out.a 0; have m1 : w10.cell? ⟨w.heap.size, 1, none⟩ = some (.int .i64 Y) := blk_cell D10.out.a 1; have m2 : w10.cell? ⟨w.heap.size, 2, none⟩ = some (.slice a n c) := blk_cell D10.out.a 2; have m3 : w10.cell? ⟨qc, 0, none⟩ = some (.int .u8 z0) := blk_cell D10.out.c 0; have m4 : w10.cell? ⟨qc, 1, none⟩ = some (.int .u8 z1) := blk_cell D10.out.c 1; have m5 : w10.cell? ⟨qc, 2, none⟩ = some (.int .u8 z2) := blk_cell D10.out.c 2; have m6 : w10.cell? ⟨qc, 3, none⟩ = some (.int .u8 z3) := blk_cell D10.out.c 3; clear g10) | (go_at_call 25; refine (KW.out _).mono ?_; rintro e w11 ⟨rfl, g11⟩; have D11 := Lib.hid (D10.out.go g11); have o0 : w11.cell? ⟨w.heap.size, 0, none⟩ = some (.int .i64 X) := blk_cell D11.out.a 0; have o1 : w11.cell? ⟨w.heap.size, 1, none⟩ = some (.int .i64 Y) := blk_cell D11.out.a 1; have o2 : w11.cell? ⟨w.heap.size, 2, none⟩ = some (.slice a n c) := blk_cell D11.out.a 2; have o3 : w11.cell? ⟨qc, 0, none⟩ = some (.int .u8 z0) := blk_cell D11.out.c 0; have o4 : w11.cell? ⟨qc, 1, none⟩ = some (.int .u8 z1) := blk_cell D11.out.c 1; have o5 : w11.cell? ⟨qc, 2, none⟩ = some (.int .u8 z2) := blk_cell D11.out.c 2; have o6 : w11.cell? ⟨qc, 3, none⟩ = some (.int .u8 z3) := blk_cell D11.out.c 3; clear g11))
  go_wp2
  go_ret
  exact ⟨rfl, D11.out.g⟩


end Go.Proofs.Ythgpjdnppknghaa.Ra
