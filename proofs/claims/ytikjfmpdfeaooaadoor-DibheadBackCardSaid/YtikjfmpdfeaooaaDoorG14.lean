/- Texts of one kind, one behind the other: Dh6, Dh7. -/
import Derived.Deep.RegionHeld3
import Derived.Test.YtikjfmpdfeaooaaDoorG08
import Derived.Test.YtikjfmpdfeaooaaDoorG12
import Derived.Test.YtikjfmpdfeaooaaDoorG17
/- Layer 20: masks that aren't told (written by wip/gen/dh6.py). -/
namespace Go.Proofs.YtikjfmpdfeaooaaDoor.Dh
open Go.ChangeShapes Go.WideShapes Go.ChangeAt Go.RowKit
open Go.Proofs.YtikjfmpdfeaooaaDoor.Le Go.Proofs.YtikjfmpdfeaooaaDoor.Sr Go.Proofs.YtikjfmpdfeaooaaDoor.Ma
set_option linter.unusedVariables false

/-- The blocks of masks: the reader's, the numbers', the two results'. -/
structure MI (W : World) (b l : Nat) (fm : Int) (p : Nat) (S X Y P D M C : Int) (w : World) : Prop where
  r : w.heap[W.heap.size]? = some (.cells #[.pointer (some ⟨b, 0, none⟩), .int .i64 fm, .int .i64 (p : Nat)] 58 (0, 0))
  n : w.heap[W.heap.size + 1]? = some (.cells #[.int .i64 S, .int .i64 X, .int .i64 Y, .int .i64 P, .int .i64 D, .int .i64 M, .int .i64 C] 62 (0, 0))
  s : w.heap[W.heap.size + 1 + 1]? = some (.cells #[.int .i64 0, .int .i64 0, .int .i64 0, .int .i64 0, .int .i64 0, .int .i64 0, .int .i64 0, .int .i64 0] 29 (0, 0))
  f : w.heap[W.heap.size + 1 + 1 + 1]? = some (.cells #[.int .i64 0, .int .i64 0, .int .i64 0] 33 (0, 0))
  t : Tn W w [b, l]
theorem MI.new {W : World} {b l : Nat} {fm : Int} {p : Nat} {S X Y P D M C : Int} : MI W b l fm p S X Y P D M C ((((W.alloc (.cells #[.pointer (some ⟨b, 0, none⟩), .int .i64 fm, .int .i64 (p : Nat)] 58)).alloc (.cells #[.int .i64 S, .int .i64 X, .int .i64 Y, .int .i64 P, .int .i64 D, .int .i64 M, .int .i64 C] 62)).alloc (.cells #[.int .i64 0, .int .i64 0, .int .i64 0, .int .i64 0, .int .i64 0, .int .i64 0, .int .i64 0, .int .i64 0] 29)).alloc (.cells #[.int .i64 0, .int .i64 0, .int .i64 0] 33)) := by
  refine ⟨blk_al (blk_al (blk_al blk_at _) _) _, blk_al (blk_al ?_ _) _, blk_al ?_ _, ?_, Tn.gb (gb_trans (gb_trans (World.grownBy_alloc _ _ none) (World.grownBy_alloc _ _ none)) (gb_trans (World.grownBy_alloc _ _ none) (World.grownBy_alloc _ _ none))) (by simp)⟩
  · rw [← size_alloc W (.cells #[.pointer (some ⟨b, 0, none⟩), .int .i64 fm, .int .i64 (p : Nat)] 58)]; exact blk_at
  · rw [← size_alloc W (.cells #[.pointer (some ⟨b, 0, none⟩), .int .i64 fm, .int .i64 (p : Nat)] 58), ← size_alloc (W.alloc (.cells #[.pointer (some ⟨b, 0, none⟩), .int .i64 fm, .int .i64 (p : Nat)] 58)) (.cells #[.int .i64 S, .int .i64 X, .int .i64 Y, .int .i64 P, .int .i64 D, .int .i64 M, .int .i64 C] 62)]; exact blk_at
  · rw [← size_alloc W (.cells #[.pointer (some ⟨b, 0, none⟩), .int .i64 fm, .int .i64 (p : Nat)] 58), ← size_alloc (W.alloc (.cells #[.pointer (some ⟨b, 0, none⟩), .int .i64 fm, .int .i64 (p : Nat)] 58)) (.cells #[.int .i64 S, .int .i64 X, .int .i64 Y, .int .i64 P, .int .i64 D, .int .i64 M, .int .i64 C] 62), ← size_alloc ((W.alloc (.cells #[.pointer (some ⟨b, 0, none⟩), .int .i64 fm, .int .i64 (p : Nat)] 58)).alloc (.cells #[.int .i64 S, .int .i64 X, .int .i64 Y, .int .i64 P, .int .i64 D, .int .i64 M, .int .i64 C] 62)) (.cells #[.int .i64 0, .int .i64 0, .int .i64 0, .int .i64 0, .int .i64 0, .int .i64 0, .int .i64 0, .int .i64 0] 29)]; exact blk_at
theorem MI.turned {W w w' : World} {b l : Nat} {fm : Int} {p : Nat} {S X Y P D M C : Int} (h : MI W b l fm p S X Y P D M C w) (hb : b < W.heap.size) (hl : l < W.heap.size) (t : Tn w w' [b, l]) : MI W b l fm p S X Y P D M C w' :=
  ⟨(t.block _ (blk_lt h.r) (by simp; omega)).trans h.r, (t.block _ (blk_lt h.n) (by simp; omega)).trans h.n, (t.block _ (blk_lt h.s) (by simp; omega)).trans h.s, (t.block _ (blk_lt h.f) (by simp; omega)).trans h.f, h.t.trans t⟩
theorem MI.gb {W w w' : World} {b l : Nat} {fm : Int} {p : Nat} {S X Y P D M C : Int} (h : MI W b l fm p S X Y P D M C w) (hb : b < W.heap.size) (hl : l < W.heap.size) (g : w.grownBy w' none) : MI W b l fm p S X Y P D M C w' := h.turned hb hl (Tn.gb g (by simp))

set_option maxRecDepth 100000 in
set_option maxHeartbeats 4000000 in
theorem masks_none (b l : Nat) (s z : ByteArray) (p q f t : Nat) (fm : Int) (S X Y P D M C : Int) (v0 v1 v2 v3 v4 v5 v6 v7 : Int) (vb : Bool) (x : St) (W : World) (h : SL b l s q f t x W) (hM : M ≠ 3)
    (KC0 : ∀ u, Calls Tryd.prog 52 #[.int .i64 D] u fun e w' => e = .returned (.tuple #[.agg #[.int .i64 v0, .int .i64 v1, .int .i64 v2, .int .i64 v3, .int .i64 v4, .int .i64 v5, .int .i64 v6, .int .i64 v7], .bool vb]) ∧ u.grownBy w' none) :
    Calls Tryd.prog 25 #[.agg #[.pointer (some ⟨b, 0, none⟩), .int .i64 fm, .int .i64 (p : Nat)], .string z, .agg #[.int .i64 S, .int .i64 X, .int .i64 Y, .int .i64 P, .int .i64 D, .int .i64 M, .int .i64 C]] W
      fun e w' => e = .returned (.tuple #[.agg #[.int .i64 v0, .int .i64 v1, .int .i64 v2, .int .i64 v3, .int .i64 v4, .int .i64 v5, .int .i64 v6, .int .i64 v7], flV 0 0 0]) ∧ SL b l s q f t x w' ∧ Tn W w' [b, l] := by
  have hblt := h.so.lt
  have hllt := h.led.lt
  have KC := Lib.hid KC0
  have m3 : (M != 3) = true := by rw [bne_iff_ne]; exact hM
  have HS := Lib.hid (fun u (g : W.grownBy u none) => h.grown g)
  unfold flV
  clear h hM KC0
  go_enter Tryd.func25, Tryd.ntmps25
  go_upto_region 1 with fail
  have I0 : MI W b l fm p S X Y P D M C _ := MI.new
  have HS0 := Lib.hid (HS.out _ (gb_trans (gb_trans (World.grownBy_alloc W (.cells #[.pointer (some ⟨b, 0, none⟩), .int .i64 fm, .int .i64 (p : Nat)] 58) none) (World.grownBy_alloc (W.alloc (.cells #[.pointer (some ⟨b, 0, none⟩), .int .i64 fm, .int .i64 (p : Nat)] 58)) (.cells #[.int .i64 S, .int .i64 X, .int .i64 Y, .int .i64 P, .int .i64 D, .int .i64 M, .int .i64 C] 62) none)) (gb_trans (World.grownBy_alloc _ (.cells #[.int .i64 0, .int .i64 0, .int .i64 0, .int .i64 0, .int .i64 0, .int .i64 0, .int .i64 0, .int .i64 0] 29) none) (World.grownBy_alloc _ (.cells #[.int .i64 0, .int .i64 0, .int .i64 0] 33) none))))
  generalize ((((W.alloc (.cells #[.pointer (some ⟨b, 0, none⟩), .int .i64 fm, .int .i64 (p : Nat)] 58)).alloc (.cells #[.int .i64 S, .int .i64 X, .int .i64 Y, .int .i64 P, .int .i64 D, .int .i64 M, .int .i64 C] 62)).alloc (.cells #[.int .i64 0, .int .i64 0, .int .i64 0, .int .i64 0, .int .i64 0, .int .i64 0, .int .i64 0, .int .i64 0] 29)).alloc (.cells #[.int .i64 0, .int .i64 0, .int .i64 0] 33)) = w0 at I0 HS0 ⊢
  clear HS
  have c0 := blk_cell I0.r 0
  have c1 := blk_cell I0.r 1
  have c2 := blk_cell I0.r 2
  have n0 := blk_cell I0.n 0
  have n1 := blk_cell I0.n 1
  have n2 := blk_cell I0.n 2
  have n3 := blk_cell I0.n 3
  have n4 := blk_cell I0.n 4
  have n5 := blk_cell I0.n 5
  have n6 := blk_cell I0.n 6
  have s0 := blk_cell I0.s 0
  have t0 := blk_free I0.s 0
  have s1 := blk_cell I0.s 1
  have t1 := blk_free I0.s 1
  have s2 := blk_cell I0.s 2
  have t2 := blk_free I0.s 2
  have s3 := blk_cell I0.s 3
  have t3 := blk_free I0.s 3
  have s4 := blk_cell I0.s 4
  have t4 := blk_free I0.s 4
  have s5 := blk_cell I0.s 5
  have t5 := blk_free I0.s 5
  have s6 := blk_cell I0.s 6
  have t6 := blk_free I0.s 6
  have s7 := blk_cell I0.s 7
  have t7 := blk_free I0.s 7
  have d0 := blk_cell I0.f 0
  have e0 := blk_free I0.f 0
  have d1 := blk_cell I0.f 1
  have e1 := blk_free I0.f 1
  have d2 := blk_cell I0.f 2
  have e2 := blk_free I0.f 2
  have l0 := blk_lt I0.r
  have l1 := blk_lt I0.n
  have l2 := blk_lt I0.s
  have l3 := blk_lt I0.f
  simp only [List.getElem?_toArray, List.getElem?_cons_succ, List.getElem?_cons_zero] at c0 c1 c2 n0 n1 n2 n3 n4 n5 n6 s0 s1 s2 s3 s4 s5 s6 s7 d0 d1 d2
  have HI0 := Lib.hid I0
  clear I0
  go_wp2_with fail
  refine (KC.out _).mono ?_
  rintro e w1 ⟨rfl, g1⟩
  have I1 : MI W b l fm p S X Y P D M C (w1.alloc (.cells #[.int .i64 v0, .int .i64 v1, .int .i64 v2, .int .i64 v3, .int .i64 v4, .int .i64 v5, .int .i64 v6, .int .i64 v7] 29)) := HI0.out.gb hblt hllt (gb_trans g1 (World.grownBy_alloc _ _ none))
  have HS1 := Lib.hid (HS0.out.grown (gb_trans g1 (World.grownBy_alloc w1 (.cells #[.int .i64 v0, .int .i64 v1, .int .i64 v2, .int .i64 v3, .int .i64 v4, .int .i64 v5, .int .i64 v6, .int .i64 v7] 29) none)))
  have hz := (HI0.out.gb hblt hllt g1)
  have hz3 := blk_lt hz.f
  have A1 : (w1.alloc (.cells #[.int .i64 v0, .int .i64 v1, .int .i64 v2, .int .i64 v3, .int .i64 v4, .int .i64 v5, .int .i64 v6, .int .i64 v7] 29)).heap[w1.heap.size]? = some (.cells #[.int .i64 v0, .int .i64 v1, .int .i64 v2, .int .i64 v3, .int .i64 v4, .int .i64 v5, .int .i64 v6, .int .i64 v7] 29 (0, 0)) := blk_at
  clear g1 hz HI0 HS0
  clear c0 c1 c2 n0 n1 n2 n3 n4 n5 n6 s0 t0 s1 t1 s2 t2 s3 t3 s4 t4 s5 t5 s6 t6 s7 t7 d0 d1 d2 e0 e1 e2 l0 l1 l2 l3
  go_upto_region 3 with fail
  generalize (w1.alloc (.cells #[.int .i64 v0, .int .i64 v1, .int .i64 v2, .int .i64 v3, .int .i64 v4, .int .i64 v5, .int .i64 v6, .int .i64 v7] 29)) = w2 at I1 HS1 A1 ⊢
  have c0 := blk_cell I1.r 0
  have c1 := blk_cell I1.r 1
  have c2 := blk_cell I1.r 2
  have n0 := blk_cell I1.n 0
  have n1 := blk_cell I1.n 1
  have n2 := blk_cell I1.n 2
  have n3 := blk_cell I1.n 3
  have n4 := blk_cell I1.n 4
  have n5 := blk_cell I1.n 5
  have n6 := blk_cell I1.n 6
  have s0 := blk_cell I1.s 0
  have t0 := blk_free I1.s 0
  have s1 := blk_cell I1.s 1
  have t1 := blk_free I1.s 1
  have s2 := blk_cell I1.s 2
  have t2 := blk_free I1.s 2
  have s3 := blk_cell I1.s 3
  have t3 := blk_free I1.s 3
  have s4 := blk_cell I1.s 4
  have t4 := blk_free I1.s 4
  have s5 := blk_cell I1.s 5
  have t5 := blk_free I1.s 5
  have s6 := blk_cell I1.s 6
  have t6 := blk_free I1.s 6
  have s7 := blk_cell I1.s 7
  have t7 := blk_free I1.s 7
  have d0 := blk_cell I1.f 0
  have e0 := blk_free I1.f 0
  have d1 := blk_cell I1.f 1
  have e1 := blk_free I1.f 1
  have d2 := blk_cell I1.f 2
  have e2 := blk_free I1.f 2
  have l0 := blk_lt I1.r
  have l1 := blk_lt I1.n
  have l2 := blk_lt I1.s
  have l3 := blk_lt I1.f
  simp only [List.getElem?_toArray, List.getElem?_cons_succ, List.getElem?_cons_zero] at c0 c1 c2 n0 n1 n2 n3 n4 n5 n6 s0 s1 s2 s3 s4 s5 s6 s7 d0 d1 d2
  have HI1 := Lib.hid I1
  clear I1
  have a0 := blk_cell A1 0
  have a1 := blk_cell A1 1
  have a2 := blk_cell A1 2
  have a3 := blk_cell A1 3
  have a4 := blk_cell A1 4
  have a5 := blk_cell A1 5
  have a6 := blk_cell A1 6
  have a7 := blk_cell A1 7
  have a9 := blk_lt A1
  simp only [List.getElem?_toArray, List.getElem?_cons_succ, List.getElem?_cons_zero] at a0 a1 a2 a3 a4 a5 a6 a7
  clear A1
  have g0 : ¬ w1.heap.size = W.heap.size + 1 + 1 := by omega
  have g1 : ¬ W.heap.size + 1 + 1 = w1.heap.size := by omega
  have g2 : ¬ w1.heap.size = W.heap.size + 1 + 1 + 1 := by omega
  have g3 : ¬ W.heap.size + 1 + 1 + 1 = w1.heap.size := by omega
  try go_region
  go_wp2
  refine bodyPost_ret (v := .tuple #[.agg #[.int .i64 v0, .int .i64 v1, .int .i64 v2, .int .i64 v3, .int .i64 v4, .int .i64 v5, .int .i64 v6, .int .i64 v7], .agg #[.int .i64 0, .int .i64 0, .int .i64 0]]) (by simp only [results, Tryd.results25]; go_simp) rfl ⟨rfl, ?_, ?_⟩
  · repeat' first | with_reducible exact HS1.out | with_reducible refine SL.st ?_ (by omega) (by omega) | with_reducible refine SL.grown ?_ (gb_drew _ _)
  · repeat' first | with_reducible exact HI1.out.t | with_reducible refine tn_own1 ?_ (by omega) | with_reducible refine Tn.dr ?_

end Go.Proofs.YtikjfmpdfeaooaaDoor.Dh

/- Layer 20: Read, from what its parts tell (written by wip/gen/dh7.py). -/
namespace Go.Proofs.YtikjfmpdfeaooaaDoor.Dh
open Go.ChangeShapes Go.WideShapes Go.ChangeAt Go.RowKit
open Go.Proofs.YtikjfmpdfeaooaaDoor.Le Go.Proofs.YtikjfmpdfeaooaaDoor.Sr Go.Proofs.YtikjfmpdfeaooaaDoor.Ma
set_option linter.unusedVariables false

/-- The blocks of Read: the two results', the reader's. -/
structure RI (W : World) (b l : Nat) (fm : Int) (p : Nat) (w : World) : Prop where
  h : w.heap[W.heap.size]? = some (.cells #[.int .i64 0, .int .i64 0, .int .i64 0, .bool false, .int .i64 0, .int .i64 0, .int .i64 0, .int .i64 0, .int .i64 0, .int .i64 0, .int .i64 0, .int .i64 0, .int .i64 0, .int .i64 0, .int .i64 0, .int .i64 0] 31 (0, 0))
  f : w.heap[W.heap.size + 1]? = some (.cells #[.int .i64 0, .int .i64 0, .int .i64 0] 33 (0, 0))
  r : w.heap[W.heap.size + 1 + 1]? = some (.cells #[.pointer (some ⟨b, 0, none⟩), .int .i64 fm, .int .i64 (p : Nat)] 58 (0, 0))
  t : Tn W w [b, l]
theorem RI.new {W : World} {b l : Nat} {fm : Int} {p : Nat} : RI W b l fm p (((W.alloc (.cells #[.int .i64 0, .int .i64 0, .int .i64 0, .bool false, .int .i64 0, .int .i64 0, .int .i64 0, .int .i64 0, .int .i64 0, .int .i64 0, .int .i64 0, .int .i64 0, .int .i64 0, .int .i64 0, .int .i64 0, .int .i64 0] 31)).alloc (.cells #[.int .i64 0, .int .i64 0, .int .i64 0] 33)).alloc (.cells #[.pointer (some ⟨b, 0, none⟩), .int .i64 fm, .int .i64 (p : Nat)] 58)) := by
  refine ⟨blk_al (blk_al blk_at _) _, blk_al ?_ _, ?_, Tn.gb (gb_trans (World.grownBy_alloc _ _ none) (gb_trans (World.grownBy_alloc _ _ none) (World.grownBy_alloc _ _ none))) (by simp)⟩
  · rw [← size_alloc W (.cells #[.int .i64 0, .int .i64 0, .int .i64 0, .bool false, .int .i64 0, .int .i64 0, .int .i64 0, .int .i64 0, .int .i64 0, .int .i64 0, .int .i64 0, .int .i64 0, .int .i64 0, .int .i64 0, .int .i64 0, .int .i64 0] 31)]; exact blk_at
  · rw [← size_alloc W (.cells #[.int .i64 0, .int .i64 0, .int .i64 0, .bool false, .int .i64 0, .int .i64 0, .int .i64 0, .int .i64 0, .int .i64 0, .int .i64 0, .int .i64 0, .int .i64 0, .int .i64 0, .int .i64 0, .int .i64 0, .int .i64 0] 31), ← size_alloc (W.alloc (.cells #[.int .i64 0, .int .i64 0, .int .i64 0, .bool false, .int .i64 0, .int .i64 0, .int .i64 0, .int .i64 0, .int .i64 0, .int .i64 0, .int .i64 0, .int .i64 0, .int .i64 0, .int .i64 0, .int .i64 0, .int .i64 0] 31)) (.cells #[.int .i64 0, .int .i64 0, .int .i64 0] 33)]; exact blk_at
theorem RI.turned {W w w' : World} {b l : Nat} {fm : Int} {p : Nat} (h : RI W b l fm p w) (hb : b < W.heap.size) (hl : l < W.heap.size) (t : Tn w w' [b, l]) : RI W b l fm p w' :=
  ⟨(t.block _ (blk_lt h.h) (by simp; omega)).trans h.h, (t.block _ (blk_lt h.f) (by simp; omega)).trans h.f, (t.block _ (blk_lt h.r) (by simp; omega)).trans h.r, h.t.trans t⟩
theorem RI.gb {W w w' : World} {b l : Nat} {fm : Int} {p : Nat} (h : RI W b l fm p w) (hb : b < W.heap.size) (hl : l < W.heap.size) (g : w.grownBy w' none) : RI W b l fm p w' := h.turned hb hl (Tn.gb g (by simp))
theorem RI.st {W w : World} {b l : Nat} {fm : Int} {p : Nat} {k i : Nat} {v : Value} (h : RI W b l fm p w) (hk : W.heap.size + 1 + 1 < k) : RI W b l fm p (w.setCell ⟨k, i, none⟩ v) :=
  ⟨blk_other h.h (by omega), blk_other h.f (by omega), blk_other h.r (by omega), tn_own1 h.t (by omega)⟩
theorem blk_tn {w w' : World} {b l k : Nat} {o : Obj} (h : w.heap[k]? = some o) (hb : k ≠ b) (hl : k ≠ l) (t : Tn w w' [b, l]) : w'.heap[k]? = some o := (t.block _ (blk_lt h) (by simp; omega)).trans h

set_option maxRecDepth 100000 in
set_option maxHeartbeats 8000000 in
theorem read_nohead (b l : Nat) (s : ByteArray) (p f t : Nat) (fm : Int) (x : St) (W : World) (h : SL b l s p f t x W) (kk a0 : Int) (hk : kk ≠ 0) (q : Nat) (y : St) (KH0 : ∀ u, SL b l s p f t x u → Calls Tryd.prog 21 #[.agg #[.pointer (some ⟨b, 0, none⟩), .int .i64 fm, .int .i64 (p : Nat)]] u fun e w' => e = .returned (.tuple #[.string ⟨#[]⟩, flV kk fm a0]) ∧ SL b l s q f t y w' ∧ Tn u w' [b, l]) :
    Calls Tryd.prog 10 #[.pointer (some ⟨b, 0, none⟩), .int .i64 fm] W
      fun e w' => e = .returned (.tuple #[.agg #[.int .i64 0, .int .i64 0, .int .i64 0, .bool false, .int .i64 0, .int .i64 0, .int .i64 0, .int .i64 0, .int .i64 0, .int .i64 0, .int .i64 0, .int .i64 0, .int .i64 0, .int .i64 0, .int .i64 0, .int .i64 0], flV kk fm a0]) ∧ SL b l s q f t y w' ∧ Tn W w' [b, l] := by
  unfold flV at KH0 ⊢
  have hk0 : (kk != 0) = true := by rw [bne_iff_ne]; exact hk
  clear hk
  have hblt := h.so.lt
  have hllt := h.led.lt
  have KA := Lib.hid (fun u (hu : SL b l s p f t x u) => at_calls b l s p f t u hu.so)
  have HS := Lib.hid (fun u (g : W.grownBy u none) => h.grown g)
  have KH := Lib.hid KH0
  clear h KH0
  go_enter Tryd.func10, Tryd.ntmps10
  go_wp2_with fail
  have g00 := gb_trans (World.grownBy_alloc W (.cells #[.int .i64 0, .int .i64 0, .int .i64 0, .bool false, .int .i64 0, .int .i64 0, .int .i64 0, .int .i64 0, .int .i64 0, .int .i64 0, .int .i64 0, .int .i64 0, .int .i64 0, .int .i64 0, .int .i64 0, .int .i64 0] 31) none) (World.grownBy_alloc (W.alloc (.cells #[.int .i64 0, .int .i64 0, .int .i64 0, .bool false, .int .i64 0, .int .i64 0, .int .i64 0, .int .i64 0, .int .i64 0, .int .i64 0, .int .i64 0, .int .i64 0, .int .i64 0, .int .i64 0, .int .i64 0, .int .i64 0] 31)) (.cells #[.int .i64 0, .int .i64 0, .int .i64 0] 33) none)
  refine (KA.out _ (HS.out _ g00)).mono ?_
  rintro e w' ⟨rfl, rfl⟩
  go_upto_region 2 with fail
  have I0 : RI W b l fm p _ := RI.new
  have HS0 := Lib.hid (HS.out _ (gb_trans g00 (World.grownBy_alloc _ (.cells #[.pointer (some ⟨b, 0, none⟩), .int .i64 fm, .int .i64 (p : Nat)] 58) none)))
  generalize (((W.alloc (.cells #[.int .i64 0, .int .i64 0, .int .i64 0, .bool false, .int .i64 0, .int .i64 0, .int .i64 0, .int .i64 0, .int .i64 0, .int .i64 0, .int .i64 0, .int .i64 0, .int .i64 0, .int .i64 0, .int .i64 0, .int .i64 0] 31)).alloc (.cells #[.int .i64 0, .int .i64 0, .int .i64 0] 33)).alloc (.cells #[.pointer (some ⟨b, 0, none⟩), .int .i64 fm, .int .i64 (p : Nat)] 58)) = w0 at I0 HS0 ⊢
  clear HS g00 KA
  have h0 := blk_cell I0.h 0
  have h1 := blk_cell I0.h 1
  have h2 := blk_cell I0.h 2
  have h3 := blk_cell I0.h 3
  have h4 := blk_cell I0.h 4
  have h5 := blk_cell I0.h 5
  have h6 := blk_cell I0.h 6
  have h7 := blk_cell I0.h 7
  have h8 := blk_cell I0.h 8
  have h9 := blk_cell I0.h 9
  have h10 := blk_cell I0.h 10
  have h11 := blk_cell I0.h 11
  have h12 := blk_cell I0.h 12
  have h13 := blk_cell I0.h 13
  have h14 := blk_cell I0.h 14
  have h15 := blk_cell I0.h 15
  have q0 := blk_free I0.h 0
  have q1 := blk_free I0.h 1
  have q2 := blk_free I0.h 2
  have q3 := blk_free I0.h 3
  have q4 := blk_free I0.h 4
  have q5 := blk_free I0.h 5
  have q6 := blk_free I0.h 6
  have q7 := blk_free I0.h 7
  have q8 := blk_free I0.h 8
  have q9 := blk_free I0.h 9
  have q10 := blk_free I0.h 10
  have q11 := blk_free I0.h 11
  have q12 := blk_free I0.h 12
  have q13 := blk_free I0.h 13
  have q14 := blk_free I0.h 14
  have q15 := blk_free I0.h 15
  simp only [List.getElem?_toArray, List.getElem?_cons_succ, List.getElem?_cons_zero] at h0 h1 h2 h3 h4 h5 h6 h7 h8 h9 h10 h11 h12 h13 h14 h15
  have d0 := blk_cell I0.f 0
  have d1 := blk_cell I0.f 1
  have d2 := blk_cell I0.f 2
  have e0 := blk_free I0.f 0
  have e1 := blk_free I0.f 1
  have e2 := blk_free I0.f 2
  simp only [List.getElem?_toArray, List.getElem?_cons_succ, List.getElem?_cons_zero] at d0 d1 d2
  have c0 := blk_cell I0.r 0
  have c1 := blk_cell I0.r 1
  have c2 := blk_cell I0.r 2
  simp only [List.getElem?_toArray, List.getElem?_cons_succ, List.getElem?_cons_zero] at c0 c1 c2
  have l0 := blk_lt I0.h
  have l1 := blk_lt I0.f
  have l2 := blk_lt I0.r
  have HI0 := Lib.hid I0
  clear I0
  go_wp2_with fail
  refine (KH.out _ HS0.out).mono ?_
  rintro e w1 ⟨rfl, S1, t1⟩
  have FV : (w1.alloc (.cells #[.int .i64 kk, .int .i64 fm, .int .i64 a0] 33)).heap[w1.heap.size]? = some (.cells #[.int .i64 kk, .int .i64 fm, .int .i64 a0] 33 (0, 0)) := blk_at
  have I1 := (HI0.out.turned hblt hllt t1).gb hblt hllt (World.grownBy_alloc w1 (.cells #[.int .i64 kk, .int .i64 fm, .int .i64 a0] 33) none)
  have HS1 := Lib.hid (S1.grown (World.grownBy_alloc w1 (.cells #[.int .i64 kk, .int .i64 fm, .int .i64 a0] 33) none))
  have hz := blk_lt (HI0.out.turned hblt hllt t1).r
  clear S1 t1 HI0 HS0
  clear h0 h1 h2 h3 h4 h5 h6 h7 h8 h9 h10 h11 h12 h13 h14 h15 q0 q1 q2 q3 q4 q5 q6 q7 q8 q9 q10 q11 q12 q13 q14 q15 d0 d1 d2 e0 e1 e2 c0 c1 c2 l0 l1 l2
  go_upto_region 3 with fail
  obtain ⟨fb, hfb⟩ : ∃ k, w1.heap.size = k := ⟨_, rfl⟩
  rw [hfb] at FV hz ⊢
  generalize w1.alloc (.cells #[.int .i64 kk, .int .i64 fm, .int .i64 a0] 33) = w2 at FV I1 HS1 ⊢
  clear hfb
  have h0 := blk_cell I1.h 0
  have h1 := blk_cell I1.h 1
  have h2 := blk_cell I1.h 2
  have h3 := blk_cell I1.h 3
  have h4 := blk_cell I1.h 4
  have h5 := blk_cell I1.h 5
  have h6 := blk_cell I1.h 6
  have h7 := blk_cell I1.h 7
  have h8 := blk_cell I1.h 8
  have h9 := blk_cell I1.h 9
  have h10 := blk_cell I1.h 10
  have h11 := blk_cell I1.h 11
  have h12 := blk_cell I1.h 12
  have h13 := blk_cell I1.h 13
  have h14 := blk_cell I1.h 14
  have h15 := blk_cell I1.h 15
  have q0 := blk_free I1.h 0
  have q1 := blk_free I1.h 1
  have q2 := blk_free I1.h 2
  have q3 := blk_free I1.h 3
  have q4 := blk_free I1.h 4
  have q5 := blk_free I1.h 5
  have q6 := blk_free I1.h 6
  have q7 := blk_free I1.h 7
  have q8 := blk_free I1.h 8
  have q9 := blk_free I1.h 9
  have q10 := blk_free I1.h 10
  have q11 := blk_free I1.h 11
  have q12 := blk_free I1.h 12
  have q13 := blk_free I1.h 13
  have q14 := blk_free I1.h 14
  have q15 := blk_free I1.h 15
  simp only [List.getElem?_toArray, List.getElem?_cons_succ, List.getElem?_cons_zero] at h0 h1 h2 h3 h4 h5 h6 h7 h8 h9 h10 h11 h12 h13 h14 h15
  have d0 := blk_cell I1.f 0
  have d1 := blk_cell I1.f 1
  have d2 := blk_cell I1.f 2
  have e0 := blk_free I1.f 0
  have e1 := blk_free I1.f 1
  have e2 := blk_free I1.f 2
  simp only [List.getElem?_toArray, List.getElem?_cons_succ, List.getElem?_cons_zero] at d0 d1 d2
  have c0 := blk_cell I1.r 0
  have c1 := blk_cell I1.r 1
  have c2 := blk_cell I1.r 2
  simp only [List.getElem?_toArray, List.getElem?_cons_succ, List.getElem?_cons_zero] at c0 c1 c2
  have l0 := blk_lt I1.h
  have l1 := blk_lt I1.f
  have l2 := blk_lt I1.r
  have HI1 := Lib.hid I1
  clear I1
  have k0 := blk_cell FV 0
  have k1 := blk_cell FV 1
  have k2 := blk_cell FV 2
  simp only [List.getElem?_toArray, List.getElem?_cons_succ, List.getElem?_cons_zero] at k0 k1 k2
  have m0 : ¬ fb = W.heap.size := by omega
  have m1 : ¬ fb = W.heap.size + 1 := by omega
  have m2 : ¬ W.heap.size = fb := by omega
  have m3 : ¬ W.heap.size + 1 = fb := by omega
  have m4 := blk_lt FV
  clear FV
  go_wp2_with fail
  go_region
  go_wp2
  refine bodyPost_ret (v := .tuple #[.agg #[.int .i64 0, .int .i64 0, .int .i64 0, .bool false, .int .i64 0, .int .i64 0, .int .i64 0, .int .i64 0, .int .i64 0, .int .i64 0, .int .i64 0, .int .i64 0, .int .i64 0, .int .i64 0, .int .i64 0, .int .i64 0], .agg #[.int .i64 kk, .int .i64 fm, .int .i64 a0]]) (by simp only [results, Tryd.results10]; go_simp) rfl ⟨rfl, ?_, ?_⟩
  · repeat' first | with_reducible exact HS1.out | with_reducible refine SL.st ?_ (by omega) (by omega) | with_reducible refine SL.grown ?_ (gb_drew _ _)
  · repeat' first | with_reducible exact HI1.out.t | with_reducible refine tn_own1 ?_ (by omega) | with_reducible refine Tn.dr ?_

set_option maxRecDepth 100000 in
set_option maxHeartbeats 8000000 in
theorem read_wrong (b l : Nat) (s : ByteArray) (p f t : Nat) (fm : Int) (x : St) (W : World) (h : SL b l s p f t x W) (z : ByteArray) (S X Y P D M C : Int) (kk a0 : Int) (hk : kk ≠ 0) (q : Nat) (y : St) (ha : -9223372036854775808 ≤ (p : Int) + a0 ∧ (p : Int) + a0 ≤ 9223372036854775807) (KH0 : ∀ u, SL b l s p f t x u → Calls Tryd.prog 21 #[.agg #[.pointer (some ⟨b, 0, none⟩), .int .i64 fm, .int .i64 (p : Nat)]] u fun e w' => e = .returned (.tuple #[.string z, flV 0 0 0]) ∧ SL b l s q f t y w' ∧ Tn u w' [b, l]) (KN0 : ∀ u, Calls Tryd.prog 22 #[.string z] u fun e w' => e = .returned (.agg #[.int .i64 S, .int .i64 X, .int .i64 Y, .int .i64 P, .int .i64 D, .int .i64 M, .int .i64 C]) ∧ u.grownBy w' none) (KW0 : ∀ u, Calls Tryd.prog 23 #[.agg #[.int .i64 S, .int .i64 X, .int .i64 Y, .int .i64 P, .int .i64 D, .int .i64 M, .int .i64 C]] u fun e w' => e = .returned (.tuple #[.int .i64 kk, .int .i64 a0]) ∧ u.grownBy w' none) :
    Calls Tryd.prog 10 #[.pointer (some ⟨b, 0, none⟩), .int .i64 fm] W
      fun e w' => e = .returned (.tuple #[.agg #[.int .i64 0, .int .i64 0, .int .i64 0, .bool false, .int .i64 0, .int .i64 0, .int .i64 0, .int .i64 0, .int .i64 0, .int .i64 0, .int .i64 0, .int .i64 0, .int .i64 0, .int .i64 0, .int .i64 0, .int .i64 0], flV kk fm ((p : Int) + a0)]) ∧ SL b l s q f t y w' ∧ Tn W w' [b, l] := by
  have hk0 : (kk != 0) = true := by rw [bne_iff_ne]; exact hk
  have KR0 := fun u => rfault_calls b fm kk a0 p u ha.1 ha.2
  unfold flV at KH0 KR0 ⊢
  obtain ⟨pa, hpa⟩ : ∃ q, (p : Int) + a0 = q := ⟨_, rfl⟩
  rw [hpa] at KR0 ⊢
  have KR := Lib.hid KR0
  clear hk ha hpa KR0
  have hblt := h.so.lt
  have hllt := h.led.lt
  have KA := Lib.hid (fun u (hu : SL b l s p f t x u) => at_calls b l s p f t u hu.so)
  have HS := Lib.hid (fun u (g : W.grownBy u none) => h.grown g)
  have KH := Lib.hid KH0
  clear h KH0
  have KN := Lib.hid KN0
  have KW := Lib.hid KW0
  clear KN0 KW0
  go_enter Tryd.func10, Tryd.ntmps10
  go_wp2_with fail
  have g00 := gb_trans (World.grownBy_alloc W (.cells #[.int .i64 0, .int .i64 0, .int .i64 0, .bool false, .int .i64 0, .int .i64 0, .int .i64 0, .int .i64 0, .int .i64 0, .int .i64 0, .int .i64 0, .int .i64 0, .int .i64 0, .int .i64 0, .int .i64 0, .int .i64 0] 31) none) (World.grownBy_alloc (W.alloc (.cells #[.int .i64 0, .int .i64 0, .int .i64 0, .bool false, .int .i64 0, .int .i64 0, .int .i64 0, .int .i64 0, .int .i64 0, .int .i64 0, .int .i64 0, .int .i64 0, .int .i64 0, .int .i64 0, .int .i64 0, .int .i64 0] 31)) (.cells #[.int .i64 0, .int .i64 0, .int .i64 0] 33) none)
  refine (KA.out _ (HS.out _ g00)).mono ?_
  rintro e w' ⟨rfl, rfl⟩
  go_upto_region 2 with fail
  have I0 : RI W b l fm p _ := RI.new
  have HS0 := Lib.hid (HS.out _ (gb_trans g00 (World.grownBy_alloc _ (.cells #[.pointer (some ⟨b, 0, none⟩), .int .i64 fm, .int .i64 (p : Nat)] 58) none)))
  generalize (((W.alloc (.cells #[.int .i64 0, .int .i64 0, .int .i64 0, .bool false, .int .i64 0, .int .i64 0, .int .i64 0, .int .i64 0, .int .i64 0, .int .i64 0, .int .i64 0, .int .i64 0, .int .i64 0, .int .i64 0, .int .i64 0, .int .i64 0] 31)).alloc (.cells #[.int .i64 0, .int .i64 0, .int .i64 0] 33)).alloc (.cells #[.pointer (some ⟨b, 0, none⟩), .int .i64 fm, .int .i64 (p : Nat)] 58)) = w0 at I0 HS0 ⊢
  clear HS g00 KA
  have h0 := blk_cell I0.h 0
  have h1 := blk_cell I0.h 1
  have h2 := blk_cell I0.h 2
  have h3 := blk_cell I0.h 3
  have h4 := blk_cell I0.h 4
  have h5 := blk_cell I0.h 5
  have h6 := blk_cell I0.h 6
  have h7 := blk_cell I0.h 7
  have h8 := blk_cell I0.h 8
  have h9 := blk_cell I0.h 9
  have h10 := blk_cell I0.h 10
  have h11 := blk_cell I0.h 11
  have h12 := blk_cell I0.h 12
  have h13 := blk_cell I0.h 13
  have h14 := blk_cell I0.h 14
  have h15 := blk_cell I0.h 15
  have q0 := blk_free I0.h 0
  have q1 := blk_free I0.h 1
  have q2 := blk_free I0.h 2
  have q3 := blk_free I0.h 3
  have q4 := blk_free I0.h 4
  have q5 := blk_free I0.h 5
  have q6 := blk_free I0.h 6
  have q7 := blk_free I0.h 7
  have q8 := blk_free I0.h 8
  have q9 := blk_free I0.h 9
  have q10 := blk_free I0.h 10
  have q11 := blk_free I0.h 11
  have q12 := blk_free I0.h 12
  have q13 := blk_free I0.h 13
  have q14 := blk_free I0.h 14
  have q15 := blk_free I0.h 15
  simp only [List.getElem?_toArray, List.getElem?_cons_succ, List.getElem?_cons_zero] at h0 h1 h2 h3 h4 h5 h6 h7 h8 h9 h10 h11 h12 h13 h14 h15
  have d0 := blk_cell I0.f 0
  have d1 := blk_cell I0.f 1
  have d2 := blk_cell I0.f 2
  have e0 := blk_free I0.f 0
  have e1 := blk_free I0.f 1
  have e2 := blk_free I0.f 2
  simp only [List.getElem?_toArray, List.getElem?_cons_succ, List.getElem?_cons_zero] at d0 d1 d2
  have c0 := blk_cell I0.r 0
  have c1 := blk_cell I0.r 1
  have c2 := blk_cell I0.r 2
  simp only [List.getElem?_toArray, List.getElem?_cons_succ, List.getElem?_cons_zero] at c0 c1 c2
  have l0 := blk_lt I0.h
  have l1 := blk_lt I0.f
  have l2 := blk_lt I0.r
  have HI0 := Lib.hid I0
  clear I0
  go_wp2_with fail
  refine (KH.out _ HS0.out).mono ?_
  rintro e w1 ⟨rfl, S1, t1⟩
  have FV : (w1.alloc (.cells #[.int .i64 0, .int .i64 0, .int .i64 0] 33)).heap[w1.heap.size]? = some (.cells #[.int .i64 0, .int .i64 0, .int .i64 0] 33 (0, 0)) := blk_at
  have I1 := (HI0.out.turned hblt hllt t1).gb hblt hllt (World.grownBy_alloc w1 (.cells #[.int .i64 0, .int .i64 0, .int .i64 0] 33) none)
  have HS1 := Lib.hid (S1.grown (World.grownBy_alloc w1 (.cells #[.int .i64 0, .int .i64 0, .int .i64 0] 33) none))
  have hz := blk_lt (HI0.out.turned hblt hllt t1).r
  clear S1 t1 HI0 HS0
  clear h0 h1 h2 h3 h4 h5 h6 h7 h8 h9 h10 h11 h12 h13 h14 h15 q0 q1 q2 q3 q4 q5 q6 q7 q8 q9 q10 q11 q12 q13 q14 q15 d0 d1 d2 e0 e1 e2 c0 c1 c2 l0 l1 l2
  go_upto_region 3 with fail
  obtain ⟨fb, hfb⟩ : ∃ k, w1.heap.size = k := ⟨_, rfl⟩
  rw [hfb] at FV hz ⊢
  generalize w1.alloc (.cells #[.int .i64 0, .int .i64 0, .int .i64 0] 33) = w2 at FV I1 HS1 ⊢
  clear hfb
  have h0 := blk_cell I1.h 0
  have h1 := blk_cell I1.h 1
  have h2 := blk_cell I1.h 2
  have h3 := blk_cell I1.h 3
  have h4 := blk_cell I1.h 4
  have h5 := blk_cell I1.h 5
  have h6 := blk_cell I1.h 6
  have h7 := blk_cell I1.h 7
  have h8 := blk_cell I1.h 8
  have h9 := blk_cell I1.h 9
  have h10 := blk_cell I1.h 10
  have h11 := blk_cell I1.h 11
  have h12 := blk_cell I1.h 12
  have h13 := blk_cell I1.h 13
  have h14 := blk_cell I1.h 14
  have h15 := blk_cell I1.h 15
  have q0 := blk_free I1.h 0
  have q1 := blk_free I1.h 1
  have q2 := blk_free I1.h 2
  have q3 := blk_free I1.h 3
  have q4 := blk_free I1.h 4
  have q5 := blk_free I1.h 5
  have q6 := blk_free I1.h 6
  have q7 := blk_free I1.h 7
  have q8 := blk_free I1.h 8
  have q9 := blk_free I1.h 9
  have q10 := blk_free I1.h 10
  have q11 := blk_free I1.h 11
  have q12 := blk_free I1.h 12
  have q13 := blk_free I1.h 13
  have q14 := blk_free I1.h 14
  have q15 := blk_free I1.h 15
  simp only [List.getElem?_toArray, List.getElem?_cons_succ, List.getElem?_cons_zero] at h0 h1 h2 h3 h4 h5 h6 h7 h8 h9 h10 h11 h12 h13 h14 h15
  have d0 := blk_cell I1.f 0
  have d1 := blk_cell I1.f 1
  have d2 := blk_cell I1.f 2
  have e0 := blk_free I1.f 0
  have e1 := blk_free I1.f 1
  have e2 := blk_free I1.f 2
  simp only [List.getElem?_toArray, List.getElem?_cons_succ, List.getElem?_cons_zero] at d0 d1 d2
  have c0 := blk_cell I1.r 0
  have c1 := blk_cell I1.r 1
  have c2 := blk_cell I1.r 2
  simp only [List.getElem?_toArray, List.getElem?_cons_succ, List.getElem?_cons_zero] at c0 c1 c2
  have l0 := blk_lt I1.h
  have l1 := blk_lt I1.f
  have l2 := blk_lt I1.r
  have HI1 := Lib.hid I1
  clear I1
  have k0 := blk_cell FV 0
  have k1 := blk_cell FV 1
  have k2 := blk_cell FV 2
  simp only [List.getElem?_toArray, List.getElem?_cons_succ, List.getElem?_cons_zero] at k0 k1 k2
  have m4 := blk_lt FV
  have HFV := Lib.hid FV
  clear FV
  go_wp2_with fail
  refine (KN.out _).mono ?_
  rintro e w3 ⟨rfl, g3⟩
  have F3 := blk_tn HFV.out (by omega) (by omega) (Tn.gb (S := [b, l]) g3 (by simp))
  have I3 := (HI1.out.gb hblt hllt g3).gb hblt hllt (World.grownBy_alloc w3 (.cells #[.int .i64 S, .int .i64 X, .int .i64 Y, .int .i64 P, .int .i64 D, .int .i64 M, .int .i64 C] 62) none)
  have HS3 := Lib.hid ((HS1.out.grown g3).grown (World.grownBy_alloc w3 (.cells #[.int .i64 S, .int .i64 X, .int .i64 Y, .int .i64 P, .int .i64 D, .int .i64 M, .int .i64 C] 62) none))
  have hz3 := blk_lt F3
  have N3 : (w3.alloc (.cells #[.int .i64 S, .int .i64 X, .int .i64 Y, .int .i64 P, .int .i64 D, .int .i64 M, .int .i64 C] 62)).heap[w3.heap.size]? = some (.cells #[.int .i64 S, .int .i64 X, .int .i64 Y, .int .i64 P, .int .i64 D, .int .i64 M, .int .i64 C] 62 (0, 0)) := blk_at
  replace F3 := blk_al F3 (.cells #[.int .i64 S, .int .i64 X, .int .i64 Y, .int .i64 P, .int .i64 D, .int .i64 M, .int .i64 C] 62)
  clear g3 HI1 HS1 HFV k0 k1 k2 m4
  clear h0 h1 h2 h3 h4 h5 h6 h7 h8 h9 h10 h11 h12 h13 h14 h15 q0 q1 q2 q3 q4 q5 q6 q7 q8 q9 q10 q11 q12 q13 q14 q15 d0 d1 d2 e0 e1 e2 c0 c1 c2 l0 l1 l2
  go_upto_region 6 with fail
  obtain ⟨nb, hnb⟩ : ∃ k, w3.heap.size = k := ⟨_, rfl⟩
  rw [hnb] at N3 hz3 ⊢
  generalize w3.alloc (.cells #[.int .i64 S, .int .i64 X, .int .i64 Y, .int .i64 P, .int .i64 D, .int .i64 M, .int .i64 C] 62) = w4 at F3 N3 I3 HS3 ⊢
  clear hnb
  have h0 := blk_cell I3.h 0
  have h1 := blk_cell I3.h 1
  have h2 := blk_cell I3.h 2
  have h3 := blk_cell I3.h 3
  have h4 := blk_cell I3.h 4
  have h5 := blk_cell I3.h 5
  have h6 := blk_cell I3.h 6
  have h7 := blk_cell I3.h 7
  have h8 := blk_cell I3.h 8
  have h9 := blk_cell I3.h 9
  have h10 := blk_cell I3.h 10
  have h11 := blk_cell I3.h 11
  have h12 := blk_cell I3.h 12
  have h13 := blk_cell I3.h 13
  have h14 := blk_cell I3.h 14
  have h15 := blk_cell I3.h 15
  have q0 := blk_free I3.h 0
  have q1 := blk_free I3.h 1
  have q2 := blk_free I3.h 2
  have q3 := blk_free I3.h 3
  have q4 := blk_free I3.h 4
  have q5 := blk_free I3.h 5
  have q6 := blk_free I3.h 6
  have q7 := blk_free I3.h 7
  have q8 := blk_free I3.h 8
  have q9 := blk_free I3.h 9
  have q10 := blk_free I3.h 10
  have q11 := blk_free I3.h 11
  have q12 := blk_free I3.h 12
  have q13 := blk_free I3.h 13
  have q14 := blk_free I3.h 14
  have q15 := blk_free I3.h 15
  simp only [List.getElem?_toArray, List.getElem?_cons_succ, List.getElem?_cons_zero] at h0 h1 h2 h3 h4 h5 h6 h7 h8 h9 h10 h11 h12 h13 h14 h15
  have d0 := blk_cell I3.f 0
  have d1 := blk_cell I3.f 1
  have d2 := blk_cell I3.f 2
  have e0 := blk_free I3.f 0
  have e1 := blk_free I3.f 1
  have e2 := blk_free I3.f 2
  simp only [List.getElem?_toArray, List.getElem?_cons_succ, List.getElem?_cons_zero] at d0 d1 d2
  have c0 := blk_cell I3.r 0
  have c1 := blk_cell I3.r 1
  have c2 := blk_cell I3.r 2
  simp only [List.getElem?_toArray, List.getElem?_cons_succ, List.getElem?_cons_zero] at c0 c1 c2
  have l0 := blk_lt I3.h
  have l1 := blk_lt I3.f
  have l2 := blk_lt I3.r
  have HI3 := Lib.hid I3
  clear I3
  have k0 := blk_cell F3 0
  have k1 := blk_cell F3 1
  have k2 := blk_cell F3 2
  simp only [List.getElem?_toArray, List.getElem?_cons_succ, List.getElem?_cons_zero] at k0 k1 k2
  have n0 := blk_cell N3 0
  have n1 := blk_cell N3 1
  have n2 := blk_cell N3 2
  have n3 := blk_cell N3 3
  have n4 := blk_cell N3 4
  have n5 := blk_cell N3 5
  have n6 := blk_cell N3 6
  simp only [List.getElem?_toArray, List.getElem?_cons_succ, List.getElem?_cons_zero] at n0 n1 n2 n3 n4 n5 n6
  have m4 := blk_lt F3
  have m5 := blk_lt N3
  have HF3 := Lib.hid F3
  have HN3 := Lib.hid N3
  clear F3 N3
  go_wp2_with fail
  refine (KW.out _).mono ?_
  rintro e w5 ⟨rfl, g5⟩
  have F5 := blk_tn HF3.out (by omega) (by omega) (Tn.gb (S := [b, l]) g5 (by simp))
  have N5 := blk_tn HN3.out (by omega) (by omega) (Tn.gb (S := [b, l]) g5 (by simp))
  have I5 := HI3.out.gb hblt hllt g5
  have HS5 := Lib.hid (HS3.out.grown g5)
  clear g5 HI3 HS3 HF3 HN3 k0 k1 k2 m4 m5 n0 n1 n2 n3 n4 n5 n6
  clear h0 h1 h2 h3 h4 h5 h6 h7 h8 h9 h10 h11 h12 h13 h14 h15 q0 q1 q2 q3 q4 q5 q6 q7 q8 q9 q10 q11 q12 q13 q14 q15 d0 d1 d2 e0 e1 e2 c0 c1 c2 l0 l1 l2
  have h0 := blk_cell I5.h 0
  have h1 := blk_cell I5.h 1
  have h2 := blk_cell I5.h 2
  have h3 := blk_cell I5.h 3
  have h4 := blk_cell I5.h 4
  have h5 := blk_cell I5.h 5
  have h6 := blk_cell I5.h 6
  have h7 := blk_cell I5.h 7
  have h8 := blk_cell I5.h 8
  have h9 := blk_cell I5.h 9
  have h10 := blk_cell I5.h 10
  have h11 := blk_cell I5.h 11
  have h12 := blk_cell I5.h 12
  have h13 := blk_cell I5.h 13
  have h14 := blk_cell I5.h 14
  have h15 := blk_cell I5.h 15
  have q0 := blk_free I5.h 0
  have q1 := blk_free I5.h 1
  have q2 := blk_free I5.h 2
  have q3 := blk_free I5.h 3
  have q4 := blk_free I5.h 4
  have q5 := blk_free I5.h 5
  have q6 := blk_free I5.h 6
  have q7 := blk_free I5.h 7
  have q8 := blk_free I5.h 8
  have q9 := blk_free I5.h 9
  have q10 := blk_free I5.h 10
  have q11 := blk_free I5.h 11
  have q12 := blk_free I5.h 12
  have q13 := blk_free I5.h 13
  have q14 := blk_free I5.h 14
  have q15 := blk_free I5.h 15
  simp only [List.getElem?_toArray, List.getElem?_cons_succ, List.getElem?_cons_zero] at h0 h1 h2 h3 h4 h5 h6 h7 h8 h9 h10 h11 h12 h13 h14 h15
  have d0 := blk_cell I5.f 0
  have d1 := blk_cell I5.f 1
  have d2 := blk_cell I5.f 2
  have e0 := blk_free I5.f 0
  have e1 := blk_free I5.f 1
  have e2 := blk_free I5.f 2
  simp only [List.getElem?_toArray, List.getElem?_cons_succ, List.getElem?_cons_zero] at d0 d1 d2
  have c0 := blk_cell I5.r 0
  have c1 := blk_cell I5.r 1
  have c2 := blk_cell I5.r 2
  simp only [List.getElem?_toArray, List.getElem?_cons_succ, List.getElem?_cons_zero] at c0 c1 c2
  have l0 := blk_lt I5.h
  have l1 := blk_lt I5.f
  have l2 := blk_lt I5.r
  have HI5 := Lib.hid I5
  clear I5
  have k0 := blk_cell F5 0
  have k1 := blk_cell F5 1
  have k2 := blk_cell F5 2
  have g0 := blk_free F5 0
  have g1 := blk_free F5 1
  have g2 := blk_free F5 2
  simp only [List.getElem?_toArray, List.getElem?_cons_succ, List.getElem?_cons_zero] at k0 k1 k2
  have n0 := blk_cell N5 0
  have n1 := blk_cell N5 1
  have n2 := blk_cell N5 2
  have n3 := blk_cell N5 3
  have n4 := blk_cell N5 4
  have n5 := blk_cell N5 5
  have n6 := blk_cell N5 6
  simp only [List.getElem?_toArray, List.getElem?_cons_succ, List.getElem?_cons_zero] at n0 n1 n2 n3 n4 n5 n6
  have m4 := blk_lt F5
  have m5 := blk_lt N5
  have HF5 := Lib.hid F5
  have HN5 := Lib.hid N5
  clear F5 N5
  go_wp2_with fail
  refine (KR.out _).mono ?_
  rintro e w7 ⟨rfl, g7⟩
  have I7 := HI5.out.gb hblt hllt g7
  have HS7 := Lib.hid (HS5.out.grown g7)
  clear g7 HI5 HS5 k1 k2 g0 g1 g2 n0 n1 n2 n3 n4 n5 n6 m4 m5
  clear h0 h1 h2 h3 h4 h5 h6 h7 h8 h9 h10 h11 h12 h13 h14 h15 q0 q1 q2 q3 q4 q5 q6 q7 q8 q9 q10 q11 q12 q13 q14 q15 d0 d1 d2 e0 e1 e2 c0 c1 c2 l0 l1 l2
  have h0 := blk_cell I7.h 0
  have h1 := blk_cell I7.h 1
  have h2 := blk_cell I7.h 2
  have h3 := blk_cell I7.h 3
  have h4 := blk_cell I7.h 4
  have h5 := blk_cell I7.h 5
  have h6 := blk_cell I7.h 6
  have h7 := blk_cell I7.h 7
  have h8 := blk_cell I7.h 8
  have h9 := blk_cell I7.h 9
  have h10 := blk_cell I7.h 10
  have h11 := blk_cell I7.h 11
  have h12 := blk_cell I7.h 12
  have h13 := blk_cell I7.h 13
  have h14 := blk_cell I7.h 14
  have h15 := blk_cell I7.h 15
  have q0 := blk_free I7.h 0
  have q1 := blk_free I7.h 1
  have q2 := blk_free I7.h 2
  have q3 := blk_free I7.h 3
  have q4 := blk_free I7.h 4
  have q5 := blk_free I7.h 5
  have q6 := blk_free I7.h 6
  have q7 := blk_free I7.h 7
  have q8 := blk_free I7.h 8
  have q9 := blk_free I7.h 9
  have q10 := blk_free I7.h 10
  have q11 := blk_free I7.h 11
  have q12 := blk_free I7.h 12
  have q13 := blk_free I7.h 13
  have q14 := blk_free I7.h 14
  have q15 := blk_free I7.h 15
  simp only [List.getElem?_toArray, List.getElem?_cons_succ, List.getElem?_cons_zero] at h0 h1 h2 h3 h4 h5 h6 h7 h8 h9 h10 h11 h12 h13 h14 h15
  have d0 := blk_cell I7.f 0
  have d1 := blk_cell I7.f 1
  have d2 := blk_cell I7.f 2
  have e0 := blk_free I7.f 0
  have e1 := blk_free I7.f 1
  have e2 := blk_free I7.f 2
  simp only [List.getElem?_toArray, List.getElem?_cons_succ, List.getElem?_cons_zero] at d0 d1 d2
  have c0 := blk_cell I7.r 0
  have c1 := blk_cell I7.r 1
  have c2 := blk_cell I7.r 2
  simp only [List.getElem?_toArray, List.getElem?_cons_succ, List.getElem?_cons_zero] at c0 c1 c2
  have l0 := blk_lt I7.h
  have l1 := blk_lt I7.f
  have l2 := blk_lt I7.r
  have HI7 := Lib.hid I7
  clear I7
  try go_region
  go_wp2
  refine bodyPost_ret (v := .tuple #[.agg #[.int .i64 0, .int .i64 0, .int .i64 0, .bool false, .int .i64 0, .int .i64 0, .int .i64 0, .int .i64 0, .int .i64 0, .int .i64 0, .int .i64 0, .int .i64 0, .int .i64 0, .int .i64 0, .int .i64 0, .int .i64 0], .agg #[.int .i64 kk, .int .i64 fm, .int .i64 pa]]) (by simp only [results, Tryd.results10]; go_simp) rfl ⟨rfl, ?_, ?_⟩
  · repeat' first | with_reducible exact HS7.out | with_reducible refine SL.st ?_ (by omega) (by omega) | with_reducible refine SL.grown ?_ (gb_drew _ _)
  · repeat' first | with_reducible exact HI7.out.t | with_reducible refine tn_own1 ?_ (by omega) | with_reducible refine Tn.dr ?_

end Go.Proofs.YtikjfmpdfeaooaaDoor.Dh
