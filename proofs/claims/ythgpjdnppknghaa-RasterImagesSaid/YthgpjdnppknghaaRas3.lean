/- Package raster: Get, Set, and two pixels that change places. -/
import Derived.Test.YthgpjdnppknghaaRas2
import Derived.Deep.LoopGhost
namespace Go.Proofs.Ythgpjdnppknghaa.Ra
open Go.ChangeShapes Go.WideShapes Go.ChangeAt Go.RowKit
open Go.Proofs.Ythgpjdnppknghaa.Le Go.Proofs.Ythgpjdnppknghaa.Bu Go.Proofs.Ythgpjdnppknghaa.Nu
set_option linter.unusedVariables false

theorem p_lt {a b x y p : Nat} (hx : x < a) (hy : y < b) (hp : y * a + x = p) : 4 * p + 4 ≤ 4 * (a * b) := by
  have h1 : (y + 1) * a ≤ b * a := Nat.mul_le_mul_right a hy
  rw [Nat.add_mul, Nat.one_mul, Nat.mul_comm b a] at h1
  omega

theorem gb_new {a b c : World} {k : Nat} {r : Option Nat} (h : a.grownBy b r) (hk : a.heap.size ≤ k) (g : b.grownBy c (some k)) : a.grownBy c r :=
  ⟨g.os.trans h.os, g.tape.trans h.tape, g.output.trans h.output, Nat.le_trans h.size g.size,
    fun i hi hr => (g.block i (Nat.lt_of_lt_of_le hi h.size) (by simp; omega)).trans (h.block i hi hr)⟩

def zero4 : Array Value := #[.int .u8 0, .int .u8 0, .int .u8 0, .int .u8 0]

set_option maxRecDepth 100000 in
set_option maxHeartbeats 2000000 in
theorem get_px (r l c g a b x y p : Nat) (s : ByteArray) (w : World) (h : Ro r l c g a b s w) (hx : x < a) (hy : y < b) (ha : a ≤ 16384) (hb : b ≤ 16384) (hp : y * a + x = p) :
    Calls Try.prog 56 #[.pointer (some ⟨r, 0, none⟩), .int .i64 x, .int .i64 y] w
      fun e w' => e = .returned (.tuple #[.agg #[.int .u8 (bt s (4 * p)), .int .u8 (bt s (4 * p + 1)), .int .u8 (bt s (4 * p + 2)), .int .u8 (bt s (4 * p + 3))], .bool true]) ∧ w.grownBy w' none := by
  have hlt := h.lt
  have F := fun w h => find_yes r l c g a b x y p s w h hx hy ha hb hp
  have P := fun w h => pixel_calls r l c g a b (4 * p) s w h (by have := p_lt hx hy hp; have := h.sz; omega)
  obtain ⟨i, hi⟩ : ∃ i, 4 * p = i := ⟨_, rfl⟩
  simp only [hi] at F P ⊢
  have F' := Lib.hid F
  have P' := Lib.hid P
  have H := Lib.hid h
  obtain ⟨x0, e0⟩ : ∃ x, bt s i = x := ⟨_, rfl⟩
  obtain ⟨x1, e1⟩ : ∃ x, bt s (i + 1) = x := ⟨_, rfl⟩
  obtain ⟨x2, e2⟩ : ∃ x, bt s (i + 2) = x := ⟨_, rfl⟩
  obtain ⟨x3, e3⟩ : ∃ x, bt s (i + 3) = x := ⟨_, rfl⟩
  simp only [e0, e1, e2, e3] at P' ⊢
  clear F P h hi hp e0 e1 e2 e3
  go_enter Try.func56, Try.ntmps56
  go_wp2_with fail
  have R0 : (w.alloc (.cells #[.int .u8 0, .int .u8 0, .int .u8 0, .int .u8 0] 50)).heap[w.heap.size]? = some (.cells #[.int .u8 0, .int .u8 0, .int .u8 0, .int .u8 0] 50 (0, 0)) := blk_at
  have HR0 := Lib.hid R0
  clear R0
  refine (F'.out _ (H.out.grown (World.grownBy_alloc _ _ none) (by simp) (by simp) (by simp))).mono ?_
  rintro e w1 ⟨rfl, g1⟩
  have HR1 := Lib.hid ((g1.block _ (blk_lt HR0.out) (by simp)).trans HR0.out)
  have H1 := Lib.hid (H.out.grown (gb_trans (World.grownBy_alloc _ _ none) g1) (by simp) (by simp) (by simp))
  have G1 := Lib.hid (gb_trans (World.grownBy_alloc _ _ none) g1)
  clear g1
  go_wp2_with fail
  refine (P'.out _ H1.out).mono ?_
  rintro e w2 ⟨rfl, g2⟩
  have R2 := (g2.block _ (blk_lt HR1.out) (by simp)).trans HR1.out
  have G2 := Lib.hid (gb_trans G1.out g2)
  have d0 := blk_cell R2 0
  have d1 := blk_cell R2 1
  have d2 := blk_cell R2 2
  have d3 := blk_cell R2 3
  have f0 := blk_free R2 0
  have f1 := blk_free R2 1
  have f2 := blk_free R2 2
  have f3 := blk_free R2 3
  simp only [List.getElem?_toArray, List.getElem?_cons_succ, List.getElem?_cons_zero] at d0 d1 d2 d3
  clear g2 R2
  go_wp2
  refine bodyPost_ret (v := .tuple #[.agg #[.int .u8 x0, .int .u8 x1, .int .u8 x2, .int .u8 x3], .bool true]) (by rw [results_cell_tmp (fn := Try.f56) rfl]; go_simp) rfl ⟨rfl, ?_⟩
  exact gb_new (gb_new (gb_new (gb_new G2.out (Nat.le_refl _) (gb_set _ _ _ _)) (Nat.le_refl _) (gb_set _ _ _ _)) (Nat.le_refl _) (gb_set _ _ _ _)) (Nat.le_refl _) (gb_set _ _ _ _)

theorem put_ints (r l c g a b i : Nat) (s : ByteArray) (p0 p1 p2 p3 : UInt8) (x0 x1 x2 x3 : Int) (e0 : (p0.toNat : Int) = x0) (e1 : (p1.toNat : Int) = x1) (e2 : (p2.toNat : Int) = x2) (e3 : (p3.toNat : Int) = x3) (w : World) (h : Ro r l c g a b s w) (hi : i + 4 ≤ s.size) :
    Calls Try.prog 76 #[.pointer (some ⟨r, 0, none⟩), .int .i64 i, .agg #[.int .u8 x0, .int .u8 x1, .int .u8 x2, .int .u8 x3]] w
      fun e w' => e = .returned (.tuple #[]) ∧ Ro r l c g a b (putS s (four p0 p1 p2 p3) i) w' ∧ w.grownBy w' (some g) := by
  subst e0; subst e1; subst e2; subst e3
  exact put_calls r l c g a b i s p0 p1 p2 p3 w h hi

set_option maxRecDepth 100000 in
set_option maxHeartbeats 2000000 in
theorem set_px (r l c g a b x y p : Nat) (s : ByteArray) (q : St) (p0 p1 p2 p3 : UInt8) (w : World) (h : Ro r l c g a b s w) (hl : Led l q.ls w) (ok : q.Ok) (hq : (q.work 1).2 = true) (hx : x < a) (hy : y < b) (ha : a ≤ 16384) (hb : b ≤ 16384) (hp : y * a + x = p) :
    Calls Try.prog 54 #[.pointer (some ⟨r, 0, none⟩), .int .i64 x, .int .i64 y, .agg #[.int .u8 (p0.toNat : Int), .int .u8 (p1.toNat : Int), .int .u8 (p2.toNat : Int), .int .u8 (p3.toNat : Int)]] w
      fun e w' => e = .returned (.bool true) ∧ (Ro r l c g a b (putS s (four p0 p1 p2 p3) (4 * p)) w' ∧ Led l (q.work 1).1.ls w') ∧ Tn w w' [l, g] := by
  have hlt := h.lt
  have hll := hl.lt
  have hrl := h.rl
  have glt := h.buf.glt
  have hcl := h.buf.bl
  have hgl := h.buf.gl
  have F := fun w h => find_yes r l c g a b x y p s w h hx hy ha hb hp
  have hsz : 4 * p + 4 ≤ s.size := by have := p_lt hx hy hp; have := h.sz; omega
  have W := fun w h => work_calls l q 1 w h ok
  simp only [hq] at W
  obtain ⟨y1, hy1⟩ : ∃ y, (q.work 1).1 = y := ⟨_, rfl⟩
  simp only [hy1] at W ⊢
  obtain ⟨i, hi⟩ : ∃ i, 4 * p = i := ⟨_, rfl⟩
  simp only [hi] at F hsz ⊢
  obtain ⟨x0, e0⟩ : ∃ x : Int, (p0.toNat : Int) = x := ⟨_, rfl⟩
  obtain ⟨x1, e1⟩ : ∃ x : Int, (p1.toNat : Int) = x := ⟨_, rfl⟩
  obtain ⟨x2, e2⟩ : ∃ x : Int, (p2.toNat : Int) = x := ⟨_, rfl⟩
  obtain ⟨x3, e3⟩ : ∃ x : Int, (p3.toNat : Int) = x := ⟨_, rfl⟩
  have P := Lib.hid (fun w h => put_ints r l c g a b i s p0 p1 p2 p3 x0 x1 x2 x3 e0 e1 e2 e3 w h hsz)
  rw [e0, e1, e2, e3]
  have F' := Lib.hid F
  have W' := Lib.hid W
  have H := Lib.hid h
  have L := Lib.hid hl
  obtain ⟨t, ht⟩ : ∃ t, putS s (four p0 p1 p2 p3) i = t := ⟨_, rfl⟩
  simp only [ht] at P ⊢
  clear F W h hl hq hy1 hi e0 e1 e2 e3 hp ok ht
  go_enter Try.func54, Try.ntmps54
  go_wp2_with fail
  have B0 := Lib.hid (show (w.alloc (.cells #[.int .u8 x0, .int .u8 x1, .int .u8 x2, .int .u8 x3] 50)).heap[w.heap.size]? = some (.cells #[.int .u8 x0, .int .u8 x1, .int .u8 x2, .int .u8 x3] 50 (0, 0)) from blk_at)
  refine (F'.out _ (H.out.grown (World.grownBy_alloc _ _ none) (by simp) (by simp) (by simp))).mono ?_
  rintro e w1 ⟨rfl, g1⟩
  have B1 := Lib.hid ((g1.block _ (blk_lt B0.out) (by simp)).trans B0.out)
  have G1 := Lib.hid (gb_trans (World.grownBy_alloc _ _ none) g1)
  have H1 := Lib.hid (H.out.grown G1.out (by simp) (by simp) (by simp))
  have L1 := Lib.hid (L.out.grown G1.out (by simp))
  have c0 : w1.cell? ⟨r, 0, none⟩ = some (.pointer (some ⟨l, 0, none⟩)) := blk_cell H1.out.blk 0
  clear g1
  go_wp2_with fail
  refine (W'.out _ L1.out).mono ?_
  rintro e w2 ⟨rfl, L2, g2⟩
  have R2 := (g2.block _ (blk_lt B1.out) (by simp; omega)).trans B1.out
  have H2 := Lib.hid (H1.out.grown g2 (by simpa using hrl) (by simpa using hcl) (by simpa using hgl))
  have HL2 := Lib.hid L2
  have G2 := Lib.hid g2
  have d0 := blk_cell R2 0
  have d1 := blk_cell R2 1
  have d2 := blk_cell R2 2
  have d3 := blk_cell R2 3
  simp only [List.getElem?_toArray, List.getElem?_cons_succ, List.getElem?_cons_zero] at d0 d1 d2 d3
  clear L2 g2 R2
  go_wp2_with fail
  refine (P.out _ H2.out).mono ?_
  rintro e w3 ⟨rfl, H3, g3⟩
  have HR := Lib.hid H3
  have HL := Lib.hid (HL2.out.grown g3 (by simpa using Ne.symm hgl))
  have HT := Lib.hid (((Tn.gb G1.out (by simp) : Tn w w1 [l, g]).trans (Tn.gb G2.out (by simp))).trans (Tn.gb g3 (by simp)))
  clear H3 g3
  go_wp2
  go_ret
  exact ⟨rfl, ⟨HR.out, HL.out⟩, HT.out⟩

/-- A byte of a text. -/
def by8 (s : ByteArray) (j : Nat) : UInt8 := s.data.toList.getD j 0
def px (s : ByteArray) (j : Nat) : ByteArray := four (by8 s j) (by8 s (j + 1)) (by8 s (j + 2)) (by8 s (j + 3))
/-- Two pixels that have changed places. -/
def swp (s : ByteArray) (i k : Nat) : ByteArray := putS (putS s (px s k) i) (px s i) k

set_option maxRecDepth 100000 in
set_option maxHeartbeats 2000000 in
theorem swap_calls (r l c g a b i k : Nat) (s : ByteArray) (w : World) (h : Ro r l c g a b s w) (hi : i + 4 ≤ s.size) (hk : k + 4 ≤ s.size) :
    Calls Try.prog 78 #[.pointer (some ⟨r, 0, none⟩), .int .i64 i, .int .i64 k] w
      fun e w' => e = .returned (.tuple #[]) ∧ Ro r l c g a b (swp s i k) w' ∧ w.grownBy w' (some g) := by
  have hlt := h.lt
  have glt := h.buf.glt
  have A := fun w h => pixel_calls r l c g a b i s w h hi
  have B := fun w h => pixel_calls r l c g a b k s w h hk
  obtain ⟨x0, e0⟩ : ∃ x, bt s i = x := ⟨_, rfl⟩
  obtain ⟨x1, e1⟩ : ∃ x, bt s (i + 1) = x := ⟨_, rfl⟩
  obtain ⟨x2, e2⟩ : ∃ x, bt s (i + 2) = x := ⟨_, rfl⟩
  obtain ⟨x3, e3⟩ : ∃ x, bt s (i + 3) = x := ⟨_, rfl⟩
  obtain ⟨y0, f0⟩ : ∃ x, bt s k = x := ⟨_, rfl⟩
  obtain ⟨y1, f1⟩ : ∃ x, bt s (k + 1) = x := ⟨_, rfl⟩
  obtain ⟨y2, f2⟩ : ∃ x, bt s (k + 2) = x := ⟨_, rfl⟩
  obtain ⟨y3, f3⟩ : ∃ x, bt s (k + 3) = x := ⟨_, rfl⟩
  simp only [e0, e1, e2, e3] at A
  simp only [f0, f1, f2, f3] at B
  have P1 := Lib.hid (fun w h => put_ints r l c g a b i s (by8 s k) (by8 s (k + 1)) (by8 s (k + 2)) (by8 s (k + 3)) y0 y1 y2 y3 f0 f1 f2 f3 w h hi)
  have hs1 : (putS s (px s k) i).size = s.size := putS_size _ _ _ hi
  have P2 := Lib.hid (fun w h => put_ints r l c g a b k (putS s (px s k) i) (by8 s i) (by8 s (i + 1)) (by8 s (i + 2)) (by8 s (i + 3)) x0 x1 x2 x3 e0 e1 e2 e3 w h (by rw [hs1]; exact hk))
  obtain ⟨t1, ht1⟩ : ∃ t, putS s (px s k) i = t := ⟨_, rfl⟩
  obtain ⟨t2, ht2⟩ : ∃ t, swp s i k = t := ⟨_, rfl⟩
  have P1 := Lib.hid (show ∀ w, Ro r l c g a b s w → Calls Try.prog 76 #[.pointer (some ⟨r, 0, none⟩), .int .i64 i, .agg #[.int .u8 y0, .int .u8 y1, .int .u8 y2, .int .u8 y3]] w
      fun e w' => e = .returned (.tuple #[]) ∧ Ro r l c g a b t1 w' ∧ w.grownBy w' (some g) from ht1 ▸ P1.out)
  have P2 := Lib.hid (show ∀ w, Ro r l c g a b t1 w → Calls Try.prog 76 #[.pointer (some ⟨r, 0, none⟩), .int .i64 k, .agg #[.int .u8 x0, .int .u8 x1, .int .u8 x2, .int .u8 x3]] w
      fun e w' => e = .returned (.tuple #[]) ∧ Ro r l c g a b t2 w' ∧ w.grownBy w' (some g) from by
        rw [← ht1, ← ht2]; exact P2.out)
  rw [ht2]
  have A' := Lib.hid A
  have B' := Lib.hid B
  have H := Lib.hid h
  clear A B h hs1 ht1 ht2 e0 e1 e2 e3 f0 f1 f2 f3
  go_enter Try.func78, Try.ntmps78
  go_wp2_with fail
  refine (A'.out _ H.out).mono ?_
  rintro e w1 ⟨rfl, g1⟩
  have H1 := Lib.hid (H.out.grown g1 (by simp) (by simp) (by simp))
  have G1 := Lib.hid g1
  have z1 := g1.size
  clear g1
  go_wp2_with fail
  refine (B'.out _ H1.out).mono ?_
  rintro e w2 ⟨rfl, g2⟩
  have z2 := g2.size
  have G2 := Lib.hid (gb_trans G1.out g2)
  have H2 := Lib.hid (H.out.grown G2.out (by simp) (by simp) (by simp))
  clear g2
  go_wp2_with fail
  have B0 := Lib.hid (show ((w2.alloc (.cells #[.int .u8 x0, .int .u8 x1, .int .u8 x2, .int .u8 x3] 50)).alloc (.cells #[.int .u8 y0, .int .u8 y1, .int .u8 y2, .int .u8 y3] 50)).heap[w2.heap.size]? = some (.cells #[.int .u8 x0, .int .u8 x1, .int .u8 x2, .int .u8 x3] 50 (0, 0)) from blk_al blk_at _)
  have G3 := Lib.hid (show w.grownBy ((w2.alloc (.cells #[.int .u8 x0, .int .u8 x1, .int .u8 x2, .int .u8 x3] 50)).alloc (.cells #[.int .u8 y0, .int .u8 y1, .int .u8 y2, .int .u8 y3] 50)) none from gb_trans (gb_trans G2.out (World.grownBy_alloc _ _ _)) (World.grownBy_alloc _ _ _))
  have H3 := Lib.hid (H.out.grown G3.out (by simp) (by simp) (by simp))
  refine (P1.out _ H3.out).mono ?_
  rintro e w3 ⟨rfl, H4, g3⟩
  have R3 := (g3.block _ (blk_lt B0.out) (by simp; omega)).trans B0.out
  have d0 := blk_cell R3 0
  have d1 := blk_cell R3 1
  have d2 := blk_cell R3 2
  have d3 := blk_cell R3 3
  simp only [List.getElem?_toArray, List.getElem?_cons_succ, List.getElem?_cons_zero] at d0 d1 d2 d3
  have HR4 := Lib.hid H4
  have G4 := Lib.hid (gb_trans (gb_any G3.out (some g)) g3)
  clear H4 g3 R3
  go_wp2_with fail
  refine (P2.out _ HR4.out).mono ?_
  rintro e w4 ⟨rfl, H5, g4⟩
  have HR5 := Lib.hid H5
  have G5 := Lib.hid (gb_trans G4.out g4)
  clear H5 g4
  go_wp2
  go_end0
  exact ⟨rfl, HR5.out, G5.out⟩

end Go.Proofs.Ythgpjdnppknghaa.Ra
