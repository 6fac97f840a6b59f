/- Package raster: Get, Set, and two pixels that change places. -/
import Derived.Test.YtjdhlehpoclnjaaGreatRas2
import Derived.Deep.LoopGhost
namespace Go.Proofs.YtjdhlehpoclnjaaGreat.Ra
open Go.ChangeShapes Go.WideShapes Go.ChangeAt Go.RowKit
open Go.Proofs.YtjdhlehpoclnjaaGreat.Le Go.Proofs.YtjdhlehpoclnjaaGreat.Bu Go.Proofs.YtjdhlehpoclnjaaGreat.Nu
set_option linter.unusedVariables false

theorem p_lt {a b x y p : Nat} (hx : x < a) (hy : y < b) (hp : y * a + x = p) : 4 * p + 4 ≤ 4 * (a * b) := by
  have h1 : (y + 1) * a ≤ b * a := Nat.mul_le_mul_right a hy
  rw [Nat.add_mul, Nat.one_mul, Nat.mul_comm b a] at h1
  omega

theorem gb_new {a b c : World} {k : Nat} {r : Option Nat} (h : a.grownBy b r) (hk : a.heap.size ≤ k) (g : b.grownBy c (some k)) : a.grownBy c r :=
  ⟨g.os.trans h.os, g.tape.trans h.tape, g.output.trans h.output, Nat.le_trans h.size g.size,
    fun i hi hr => (g.block i (Nat.lt_of_lt_of_le hi h.size) (by simp; omega)).trans (h.block i hi hr)⟩

def zero4 : Array Value := #[.int .u8 0, .int .u8 0, .int .u8 0, .int .u8 0]

theorem put_ints (r l c g a b i : Nat) (s : ByteArray) (p0 p1 p2 p3 : UInt8) (x0 x1 x2 x3 : Int) (e0 : (p0.toNat : Int) = x0) (e1 : (p1.toNat : Int) = x1) (e2 : (p2.toNat : Int) = x2) (e3 : (p3.toNat : Int) = x3) (w : World) (h : Ro r l c g a b s w) (hi : i + 4 ≤ s.size) :
    Calls Tryz.prog 114 #[.pointer (some ⟨r, 0, none⟩), .int .i64 i, .agg #[.int .u8 x0, .int .u8 x1, .int .u8 x2, .int .u8 x3]] w
      fun e w' => e = .returned (.tuple #[]) ∧ Ro r l c g a b (putS s (four p0 p1 p2 p3) i) w' ∧ w.grownBy w' (some g) := by
  subst e0; subst e1; subst e2; subst e3
  exact put_calls r l c g a b i s p0 p1 p2 p3 w h hi

set_option maxRecDepth 100000 in
set_option maxHeartbeats 2000000 in
theorem set_px (r l c g a b x y p : Nat) (s : ByteArray) (q : St) (p0 p1 p2 p3 : UInt8) (w : World) (h : Ro r l c g a b s w) (hl : Led l q.ls w) (ok : q.Ok) (hq : (q.work 1).2 = true) (hx : x < a) (hy : y < b) (ha : a ≤ 16384) (hb : b ≤ 16384) (hp : y * a + x = p) :
    Calls Tryz.prog 90 #[.pointer (some ⟨r, 0, none⟩), .int .i64 x, .int .i64 y, .agg #[.int .u8 (p0.toNat : Int), .int .u8 (p1.toNat : Int), .int .u8 (p2.toNat : Int), .int .u8 (p3.toNat : Int)]] w
      fun e w' => e = .returned (.bool true) ∧ (Ro r l c g a b (putS s (four p0 p1 p2 p3) (4 * p)) w' ∧ Led l (q.work 1).1.ls w') ∧ Tn w w' [l, g] := by
  have hlt := h.lt
  have hll := hl.lt
  have hrl := h.rl
  have glt := h.buf.glt
  have hcl := h.buf.bl
  have hgl := h.buf.gl
  have F := fun w h => find_yes r l c g a b x y p s w h hx hy ha hb hp
  have hsz : 4 * p + 4 ≤ s.size := by have := p_lt hx hy hp; have := h.sz; omega
  have W := fun w h => work_calls l q 1 w h ok
  simp only [hq] at W
  obtain ⟨y1, hy1⟩ : ∃ y, (q.work 1).1 = y := ⟨_, rfl⟩
  simp only [hy1] at W ⊢
  obtain ⟨i, hi⟩ : ∃ i, 4 * p = i := ⟨_, rfl⟩
  simp only [hi] at F hsz ⊢
  obtain ⟨x0, e0⟩ : ∃ x : Int, (p0.toNat : Int) = x := ⟨_, rfl⟩
  obtain ⟨x1, e1⟩ : ∃ x : Int, (p1.toNat : Int) = x := ⟨_, rfl⟩
  obtain ⟨x2, e2⟩ : ∃ x : Int, (p2.toNat : Int) = x := ⟨_, rfl⟩
  obtain ⟨x3, e3⟩ : ∃ x : Int, (p3.toNat : Int) = x := ⟨_, rfl⟩
  have P := Lib.hid (fun w h => put_ints r l c g a b i s p0 p1 p2 p3 x0 x1 x2 x3 e0 e1 e2 e3 w h hsz)
  rw [e0, e1, e2, e3]
  have F' := Lib.hid F
  have W' := Lib.hid W
  have H := Lib.hid h
  have L := Lib.hid hl
  obtain ⟨t, ht⟩ : ∃ t, putS s (four p0 p1 p2 p3) i = t := ⟨_, rfl⟩
  simp only [ht] at P ⊢
  clear F W h hl hq hy1 hi e0 e1 e2 e3 hp ok ht
  go_enter Tryz.func90, Tryz.ntmps90
  go_wp2_with fail
  have B0 := Lib.hid (show (w.alloc (.cells #[.int .u8 x0, .int .u8 x1, .int .u8 x2, .int .u8 x3] 69)).heap[w.heap.size]? = some (.cells #[.int .u8 x0, .int .u8 x1, .int .u8 x2, .int .u8 x3] 69 (0, 0)) from blk_at)
  refine (F'.out _ (H.out.grown (World.grownBy_alloc _ _ none) (by simp) (by simp) (by simp))).mono ?_
  rintro e w1 ⟨rfl, g1⟩
  have B1 := Lib.hid ((g1.block _ (blk_lt B0.out) (by simp)).trans B0.out)
  have G1 := Lib.hid (gb_trans (World.grownBy_alloc _ _ none) g1)
  have H1 := Lib.hid (H.out.grown G1.out (by simp) (by simp) (by simp))
  have L1 := Lib.hid (L.out.grown G1.out (by simp))
  have c0 : w1.cell? ⟨r, 0, none⟩ = some (.pointer (some ⟨l, 0, none⟩)) := blk_cell H1.out.blk 0
  clear g1
  go_wp2_with fail
  refine (W'.out _ L1.out).mono ?_
  rintro e w2 ⟨rfl, L2, g2⟩
  have R2 := (g2.block _ (blk_lt B1.out) (by simp; omega)).trans B1.out
  have H2 := Lib.hid (H1.out.grown g2 (by simpa using hrl) (by simpa using hcl) (by simpa using hgl))
  have HL2 := Lib.hid L2
  have G2 := Lib.hid g2
  have d0 := blk_cell R2 0
  have d1 := blk_cell R2 1
  have d2 := blk_cell R2 2
  have d3 := blk_cell R2 3
  simp only [List.getElem?_toArray, List.getElem?_cons_succ, List.getElem?_cons_zero] at d0 d1 d2 d3
  clear L2 g2 R2
  go_wp2_with fail
  refine (P.out _ H2.out).mono ?_
  rintro e w3 ⟨rfl, H3, g3⟩
  have HR := Lib.hid H3
  have HL := Lib.hid (HL2.out.grown g3 (by simpa using Ne.symm hgl))
  have HT := Lib.hid (((Tn.gb G1.out (by simp) : Tn w w1 [l, g]).trans (Tn.gb G2.out (by simp))).trans (Tn.gb g3 (by simp)))
  clear H3 g3
  go_wp2
  go_ret
  exact ⟨rfl, ⟨HR.out, HL.out⟩, HT.out⟩

/-- A byte of a text. -/
def by8 (s : ByteArray) (j : Nat) : UInt8 := s.data.toList.getD j 0
def px (s : ByteArray) (j : Nat) : ByteArray := four (by8 s j) (by8 s (j + 1)) (by8 s (j + 2)) (by8 s (j + 3))
/-- Two pixels that have changed places. -/
def swp (s : ByteArray) (i k : Nat) : ByteArray := putS (putS s (px s k) i) (px s i) k

end Go.Proofs.YtjdhlehpoclnjaaGreat.Ra
