/- Layer 20: masks that aren't told (written by wip/gen/dh6.py). -/
import Derived.Test.YtgggdieedblpjaaDoorDh5
import Derived.Test.YtgggdieedblpjaaDoorMasG
namespace Go.Proofs.YtgggdieedblpjaaDoor.Dh
open Go.ChangeShapes Go.WideShapes Go.ChangeAt Go.RowKit
open Go.Proofs.YtgggdieedblpjaaDoor.Le Go.Proofs.YtgggdieedblpjaaDoor.Sr Go.Proofs.YtgggdieedblpjaaDoor.Ma
set_option linter.unusedVariables false

/-- The blocks of masks: the reader's, the numbers', the two results'. -/
structure MI (W : World) (b l : Nat) (fm : Int) (p : Nat) (S X Y P D M C : Int) (w : World) : Prop where
  r : w.heap[W.heap.size]? = some (.cells #[.pointer (some ⟨b, 0, none⟩), .int .i64 fm, .int .i64 (p : Nat)] 58 (0, 0))
  n : w.heap[W.heap.size + 1]? = some (.cells #[.int .i64 S, .int .i64 X, .int .i64 Y, .int .i64 P, .int .i64 D, .int .i64 M, .int .i64 C] 62 (0, 0))
  s : w.heap[W.heap.size + 1 + 1]? = some (.cells #[.int .i64 0, .int .i64 0, .int .i64 0, .int .i64 0, .int .i64 0, .int .i64 0, .int .i64 0, .int .i64 0] 29 (0, 0))
  f : w.heap[W.heap.size + 1 + 1 + 1]? = some (.cells #[.int .i64 0, .int .i64 0, .int .i64 0] 33 (0, 0))
  t : Tn W w [b, l]
theorem MI.new {W : World} {b l : Nat} {fm : Int} {p : Nat} {S X Y P D M C : Int} : MI W b l fm p S X Y P D M C ((((W.alloc (.cells #[.pointer (some ⟨b, 0, none⟩), .int .i64 fm, .int .i64 (p : Nat)] 58)).alloc (.cells #[.int .i64 S, .int .i64 X, .int .i64 Y, .int .i64 P, .int .i64 D, .int .i64 M, .int .i64 C] 62)).alloc (.cells #[.int .i64 0, .int .i64 0, .int .i64 0, .int .i64 0, .int .i64 0, .int .i64 0, .int .i64 0, .int .i64 0] 29)).alloc (.cells #[.int .i64 0, .int .i64 0, .int .i64 0] 33)) := by
  refine ⟨blk_al (blk_al (blk_al blk_at _) _) _, blk_al (blk_al ?_ _) _, blk_al ?_ _, ?_, Tn.gb (gb_trans (gb_trans (World.grownBy_alloc _ _ none) (World.grownBy_alloc _ _ none)) (gb_trans (World.grownBy_alloc _ _ none) (World.grownBy_alloc _ _ none))) (by simp)⟩
  · rw [← size_alloc W (.cells #[.pointer (some ⟨b, 0, none⟩), .int .i64 fm, .int .i64 (p : Nat)] 58)]; exact blk_at
  · rw [← size_alloc W (.cells #[.pointer (some ⟨b, 0, none⟩), .int .i64 fm, .int .i64 (p : Nat)] 58), ← size_alloc (W.alloc (.cells #[.pointer (some ⟨b, 0, none⟩), .int .i64 fm, .int .i64 (p : Nat)] 58)) (.cells #[.int .i64 S, .int .i64 X, .int .i64 Y, .int .i64 P, .int .i64 D, .int .i64 M, .int .i64 C] 62)]; exact blk_at
  · rw [← size_alloc W (.cells #[.pointer (some ⟨b, 0, none⟩), .int .i64 fm, .int .i64 (p : Nat)] 58), ← size_alloc (W.alloc (.cells #[.pointer (some ⟨b, 0, none⟩), .int .i64 fm, .int .i64 (p : Nat)] 58)) (.cells #[.int .i64 S, .int .i64 X, .int .i64 Y, .int .i64 P, .int .i64 D, .int .i64 M, .int .i64 C] 62), ← size_alloc ((W.alloc (.cells #[.pointer (some ⟨b, 0, none⟩), .int .i64 fm, .int .i64 (p : Nat)] 58)).alloc (.cells #[.int .i64 S, .int .i64 X, .int .i64 Y, .int .i64 P, .int .i64 D, .int .i64 M, .int .i64 C] 62)) (.cells #[.int .i64 0, .int .i64 0, .int .i64 0, .int .i64 0, .int .i64 0, .int .i64 0, .int .i64 0, .int .i64 0] 29)]; exact blk_at
theorem MI.turned {W w w' : World} {b l : Nat} {fm : Int} {p : Nat} {S X Y P D M C : Int} (h : MI W b l fm p S X Y P D M C w) (hb : b < W.heap.size) (hl : l < W.heap.size) (t : Tn w w' [b, l]) : MI W b l fm p S X Y P D M C w' :=
  ⟨(t.block _ (blk_lt h.r) (by simp; omega)).trans h.r, (t.block _ (blk_lt h.n) (by simp; omega)).trans h.n, (t.block _ (blk_lt h.s) (by simp; omega)).trans h.s, (t.block _ (blk_lt h.f) (by simp; omega)).trans h.f, h.t.trans t⟩
theorem MI.gb {W w w' : World} {b l : Nat} {fm : Int} {p : Nat} {S X Y P D M C : Int} (h : MI W b l fm p S X Y P D M C w) (hb : b < W.heap.size) (hl : l < W.heap.size) (g : w.grownBy w' none) : MI W b l fm p S X Y P D M C w' := h.turned hb hl (Tn.gb g (by simp))

set_option maxRecDepth 100000 in
set_option maxHeartbeats 4000000 in
theorem masks_none (b l : Nat) (s z : ByteArray) (p q f t : Nat) (fm : Int) (S X Y P D M C : Int) (v0 v1 v2 v3 v4 v5 v6 v7 : Int) (vb : Bool) (x : St) (W : World) (h : SL b l s q f t x W) (hM : M ≠ 3)
    (KC0 : ∀ u, Calls Tryd.prog 52 #[.int .i64 D] u fun e w' => e = .returned (.tuple #[.agg #[.int .i64 v0, .int .i64 v1, .int .i64 v2, .int .i64 v3, .int .i64 v4, .int .i64 v5, .int .i64 v6, .int .i64 v7], .bool vb]) ∧ u.grownBy w' none) :
    Calls Tryd.prog 25 #[.agg #[.pointer (some ⟨b, 0, none⟩), .int .i64 fm, .int .i64 (p : Nat)], .string z, .agg #[.int .i64 S, .int .i64 X, .int .i64 Y, .int .i64 P, .int .i64 D, .int .i64 M, .int .i64 C]] W
      fun e w' => e = .returned (.tuple #[.agg #[.int .i64 v0, .int .i64 v1, .int .i64 v2, .int .i64 v3, .int .i64 v4, .int .i64 v5, .int .i64 v6, .int .i64 v7], flV 0 0 0]) ∧ SL b l s q f t x w' ∧ Tn W w' [b, l] := by
  have hblt := h.so.lt
  have hllt := h.led.lt
  have KC := Lib.hid KC0
  have m3 : (M != 3) = true := by rw [bne_iff_ne]; exact hM
  have HS := Lib.hid (fun u (g : W.grownBy u none) => h.grown g)
  unfold flV
  clear h hM KC0
  go_enter Tryd.func25, Tryd.ntmps25
  go_upto_region 1 with fail
  have I0 : MI W b l fm p S X Y P D M C _ := MI.new
  have HS0 := Lib.hid (HS.out _ (gb_trans (gb_trans (World.grownBy_alloc W (.cells #[.pointer (some ⟨b, 0, none⟩), .int .i64 fm, .int .i64 (p : Nat)] 58) none) (World.grownBy_alloc (W.alloc (.cells #[.pointer (some ⟨b, 0, none⟩), .int .i64 fm, .int .i64 (p : Nat)] 58)) (.cells #[.int .i64 S, .int .i64 X, .int .i64 Y, .int .i64 P, .int .i64 D, .int .i64 M, .int .i64 C] 62) none)) (gb_trans (World.grownBy_alloc _ (.cells #[.int .i64 0, .int .i64 0, .int .i64 0, .int .i64 0, .int .i64 0, .int .i64 0, .int .i64 0, .int .i64 0] 29) none) (World.grownBy_alloc _ (.cells #[.int .i64 0, .int .i64 0, .int .i64 0] 33) none))))
  generalize ((((W.alloc (.cells #[.pointer (some ⟨b, 0, none⟩), .int .i64 fm, .int .i64 (p : Nat)] 58)).alloc (.cells #[.int .i64 S, .int .i64 X, .int .i64 Y, .int .i64 P, .int .i64 D, .int .i64 M, .int .i64 C] 62)).alloc (.cells #[.int .i64 0, .int .i64 0, .int .i64 0, .int .i64 0, .int .i64 0, .int .i64 0, .int .i64 0, .int .i64 0] 29)).alloc (.cells #[.int .i64 0, .int .i64 0, .int .i64 0] 33)) = w0 at I0 HS0 ⊢
  clear HS
  have c0 := blk_cell I0.r 0
  have c1 := blk_cell I0.r 1
  have c2 := blk_cell I0.r 2
  have n0 := blk_cell I0.n 0
  have n1 := blk_cell I0.n 1
  have n2 := blk_cell I0.n 2
  have n3 := blk_cell I0.n 3
  have n4 := blk_cell I0.n 4
  have n5 := blk_cell I0.n 5
  have n6 := blk_cell I0.n 6
  have s0 := blk_cell I0.s 0
  have t0 := blk_free I0.s 0
  have s1 := blk_cell I0.s 1
  have t1 := blk_free I0.s 1
  have s2 := blk_cell I0.s 2
  have t2 := blk_free I0.s 2
  have s3 := blk_cell I0.s 3
  have t3 := blk_free I0.s 3
  have s4 := blk_cell I0.s 4
  have t4 := blk_free I0.s 4
  have s5 := blk_cell I0.s 5
  have t5 := blk_free I0.s 5
  have s6 := blk_cell I0.s 6
  have t6 := blk_free I0.s 6
  have s7 := blk_cell I0.s 7
  have t7 := blk_free I0.s 7
  have d0 := blk_cell I0.f 0
  have e0 := blk_free I0.f 0
  have d1 := blk_cell I0.f 1
  have e1 := blk_free I0.f 1
  have d2 := blk_cell I0.f 2
  have e2 := blk_free I0.f 2
  have l0 := blk_lt I0.r
  have l1 := blk_lt I0.n
  have l2 := blk_lt I0.s
  have l3 := blk_lt I0.f
  simp only [List.getElem?_toArray, List.getElem?_cons_succ, List.getElem?_cons_zero] at c0 c1 c2 n0 n1 n2 n3 n4 n5 n6 s0 s1 s2 s3 s4 s5 s6 s7 d0 d1 d2
  have HI0 := Lib.hid I0
  clear I0
  go_wp2_with fail
  refine (KC.out _).mono ?_
  rintro e w1 ⟨rfl, g1⟩
  have I1 : MI W b l fm p S X Y P D M C (w1.alloc (.cells #[.int .i64 v0, .int .i64 v1, .int .i64 v2, .int .i64 v3, .int .i64 v4, .int .i64 v5, .int .i64 v6, .int .i64 v7] 29)) := HI0.out.gb hblt hllt (gb_trans g1 (World.grownBy_alloc _ _ none))
  have HS1 := Lib.hid (HS0.out.grown (gb_trans g1 (World.grownBy_alloc w1 (.cells #[.int .i64 v0, .int .i64 v1, .int .i64 v2, .int .i64 v3, .int .i64 v4, .int .i64 v5, .int .i64 v6, .int .i64 v7] 29) none)))
  have hz := (HI0.out.gb hblt hllt g1)
  have hz3 := blk_lt hz.f
  have A1 : (w1.alloc (.cells #[.int .i64 v0, .int .i64 v1, .int .i64 v2, .int .i64 v3, .int .i64 v4, .int .i64 v5, .int .i64 v6, .int .i64 v7] 29)).heap[w1.heap.size]? = some (.cells #[.int .i64 v0, .int .i64 v1, .int .i64 v2, .int .i64 v3, .int .i64 v4, .int .i64 v5, .int .i64 v6, .int .i64 v7] 29 (0, 0)) := blk_at
  clear g1 hz HI0 HS0
  clear c0 c1 c2 n0 n1 n2 n3 n4 n5 n6 s0 t0 s1 t1 s2 t2 s3 t3 s4 t4 s5 t5 s6 t6 s7 t7 d0 d1 d2 e0 e1 e2 l0 l1 l2 l3
  go_upto_region 3 with fail
  generalize (w1.alloc (.cells #[.int .i64 v0, .int .i64 v1, .int .i64 v2, .int .i64 v3, .int .i64 v4, .int .i64 v5, .int .i64 v6, .int .i64 v7] 29)) = w2 at I1 HS1 A1 ⊢
  have c0 := blk_cell I1.r 0
  have c1 := blk_cell I1.r 1
  have c2 := blk_cell I1.r 2
  have n0 := blk_cell I1.n 0
  have n1 := blk_cell I1.n 1
  have n2 := blk_cell I1.n 2
  have n3 := blk_cell I1.n 3
  have n4 := blk_cell I1.n 4
  have n5 := blk_cell I1.n 5
  have n6 := blk_cell I1.n 6
  have s0 := blk_cell I1.s 0
  have t0 := blk_free I1.s 0
  have s1 := blk_cell I1.s 1
  have t1 := blk_free I1.s 1
  have s2 := blk_cell I1.s 2
  have t2 := blk_free I1.s 2
  have s3 := blk_cell I1.s 3
  have t3 := blk_free I1.s 3
  have s4 := blk_cell I1.s 4
  have t4 := blk_free I1.s 4
  have s5 := blk_cell I1.s 5
  have t5 := blk_free I1.s 5
  have s6 := blk_cell I1.s 6
  have t6 := blk_free I1.s 6
  have s7 := blk_cell I1.s 7
  have t7 := blk_free I1.s 7
  have d0 := blk_cell I1.f 0
  have e0 := blk_free I1.f 0
  have d1 := blk_cell I1.f 1
  have e1 := blk_free I1.f 1
  have d2 := blk_cell I1.f 2
  have e2 := blk_free I1.f 2
  have l0 := blk_lt I1.r
  have l1 := blk_lt I1.n
  have l2 := blk_lt I1.s
  have l3 := blk_lt I1.f
  simp only [List.getElem?_toArray, List.getElem?_cons_succ, List.getElem?_cons_zero] at c0 c1 c2 n0 n1 n2 n3 n4 n5 n6 s0 s1 s2 s3 s4 s5 s6 s7 d0 d1 d2
  have HI1 := Lib.hid I1
  clear I1
  have a0 := blk_cell A1 0
  have a1 := blk_cell A1 1
  have a2 := blk_cell A1 2
  have a3 := blk_cell A1 3
  have a4 := blk_cell A1 4
  have a5 := blk_cell A1 5
  have a6 := blk_cell A1 6
  have a7 := blk_cell A1 7
  have a9 := blk_lt A1
  simp only [List.getElem?_toArray, List.getElem?_cons_succ, List.getElem?_cons_zero] at a0 a1 a2 a3 a4 a5 a6 a7
  clear A1
  have g0 : ¬ w1.heap.size = W.heap.size + 1 + 1 := by omega
  have g1 : ¬ W.heap.size + 1 + 1 = w1.heap.size := by omega
  have g2 : ¬ w1.heap.size = W.heap.size + 1 + 1 + 1 := by omega
  have g3 : ¬ W.heap.size + 1 + 1 + 1 = w1.heap.size := by omega
  try go_region
  go_wp2
  refine bodyPost_ret (v := .tuple #[.agg #[.int .i64 v0, .int .i64 v1, .int .i64 v2, .int .i64 v3, .int .i64 v4, .int .i64 v5, .int .i64 v6, .int .i64 v7], .agg #[.int .i64 0, .int .i64 0, .int .i64 0]]) (by simp only [results, Tryd.results25]; go_simp) rfl ⟨rfl, ?_, ?_⟩
  · repeat' first | with_reducible exact HS1.out | with_reducible refine SL.st ?_ (by omega) (by omega) | with_reducible refine SL.grown ?_ (gb_drew _ _)
  · repeat' first | with_reducible exact HI1.out.t | with_reducible refine tn_own1 ?_ (by omega) | with_reducible refine Tn.dr ?_

end Go.Proofs.YtgggdieedblpjaaDoor.Dh
