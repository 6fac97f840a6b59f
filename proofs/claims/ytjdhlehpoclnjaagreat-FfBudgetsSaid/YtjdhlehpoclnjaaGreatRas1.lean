/- Package raster: sides, sizes, and how a raster is made. -/
import Derived.Test.YtjdhlehpoclnjaaGreatRowsFold
import Derived.Test.YtjdhlehpoclnjaaGreatBuf6
namespace Go.Proofs.YtjdhlehpoclnjaaGreat.Ra
open Go.ChangeShapes Go.WideShapes Go.ChangeAt Go.RowKit
open Go.Proofs.YtjdhlehpoclnjaaGreat.Le Go.Proofs.YtjdhlehpoclnjaaGreat.Bu Go.Proofs.YtjdhlehpoclnjaaGreat.Nu
set_option linter.unusedVariables false

/-- May it be a side? -/
def sideB (n : Int) : Bool := decide (1 ≤ n) && decide (n ≤ 16384)
theorem sideB_yes {n : Int} (h0 : 1 ≤ n) (h1 : n ≤ 16384) : sideB n = true := by simp [sideB, h0, h1]
theorem sideB_no {n : Int} (h : n < 1 ∨ 16384 < n) : sideB n = false := by
  simp only [sideB, Bool.and_eq_false_iff, decide_eq_false_iff_not]; omega

theorem side_calls (n : Int) (w : World) : Calls Tryz.prog 97 #[.int .i64 n] w fun e w' => e = .returned (.bool (sideB n)) ∧ w = w' := by
  by_cases h0 : 1 ≤ n
  · by_cases h1 : n ≤ 16384
    · rw [sideB_yes h0 h1]
      go_enter Tryz.func97, Tryz.ntmps97
      go_wp2
      go_ret
      exact ⟨rfl, rfl⟩
    · rw [sideB_no (by omega)]
      have h2 : 16384 < n := by omega
      go_enter Tryz.func97, Tryz.ntmps97
      go_wp2
      go_ret
      exact ⟨rfl, rfl⟩
  · rw [sideB_no (by omega)]
    have h2 : n < 1 := by omega
    go_enter Tryz.func97, Tryz.ntmps97
    go_wp2
    go_ret
    exact ⟨rfl, rfl⟩

/-- Sides that may not be. -/
def badS (a b : Int) : Prop := a < 1 ∨ 16384 < a ∨ b < 1 ∨ 16384 < b

theorem size_no (a b : Int) (w : World) (h : badS a b) : Calls Tryz.prog 69 #[.int .i64 a, .int .i64 b] w fun e w' => e = .returned (.tuple #[.int .i64 0, .bool false]) ∧ w = w' := by
  unfold badS at h
  by_cases ha : a < 1 ∨ 16384 < a
  · have K := side_calls a w
    rw [sideB_no ha] at K
    have K' := Lib.hid K
    clear K h ha
    go_enter Tryz.func69, Tryz.ntmps69
    go_wp2_with fail
    refine K'.out.mono ?_
    rintro e w' ⟨rfl, rfl⟩
    go_wp2
    go_ret2
    exact ⟨rfl, rfl⟩
  · have K := side_calls a w
    rw [sideB_yes (by omega) (by omega)] at K
    have K' := Lib.hid K
    have L := side_calls b w
    rw [sideB_no (by omega)] at L
    have L' := Lib.hid L
    clear K L h ha
    go_enter Tryz.func69, Tryz.ntmps69
    go_wp2_with fail
    refine K'.out.mono ?_
    rintro e w' ⟨rfl, rfl⟩
    go_wp2_with fail
    refine L'.out.mono ?_
    rintro e w' ⟨rfl, rfl⟩
    go_wp2
    go_ret2
    exact ⟨rfl, rfl⟩

theorem allM3 (a b : Nat) (a1 : a ≤ 16384) (b1 : b ≤ 16384) : allM [4, (a : Int), (b : Int)] = (((4 * (a * b) : Nat) : Int), true) := by
  have e1 : mulOk 1 4 = true ∧ mulV 1 4 = 4 := by decide +kernel
  have o2 : mulOk 4 a = true := mulOk_4 (by decide +kernel) (isB_yes (by omega) (by omega)) (by omega)
  have v2 : mulV 4 a = 4 * (a : Int) := mulV_yes o2
  have hle : a * b ≤ 16384 * 16384 := Nat.mul_le_mul a1 b1
  have e : 4 * (a : Int) * (b : Int) = ((4 * (a * b) : Nat) : Int) := by rw [Int.natCast_mul, Int.natCast_mul, ← Int.mul_assoc]; rfl
  have o3 : mulOk (4 * (a : Int)) b = true := mulOk_4 (isB_yes (by omega) (by omega)) (isB_yes (by omega) (by omega)) (by rw [e]; omega)
  have v3 : mulV (4 * (a : Int)) b = ((4 * (a * b) : Nat) : Int) := by rw [mulV_yes o3, e]
  simp only [allM, List.foldl, stepM, if_true, e1.1, e1.2, o2, v2, o3, v3]

set_option maxRecDepth 100000 in
theorem size_yes (a b : Nat) (w : World) (a0 : 1 ≤ a) (a1 : a ≤ 16384) (b0 : 1 ≤ b) (b1 : b ≤ 16384) :
    Calls Tryz.prog 69 #[.int .i64 a, .int .i64 b] w fun e w' => e = .returned (.tuple #[.int .i64 ((4 * (a * b) : Nat) : Int), .bool true]) ∧ w.grownBy w' none := by
  have K := side_calls a w
  rw [sideB_yes (by omega) (by omega)] at K
  have K' := Lib.hid K
  have L := side_calls b w
  rw [sideB_yes (by omega) (by omega)] at L
  have L' := Lib.hid L
  have A := allM3 a b a1 b1
  have P := fun (w : World) (g : Nat) (hc : ∀ j, j < 3 → w.cell? ⟨g, 0 + j, none⟩ = some (.int .i64 ([4, (a : Int), (b : Int)].getD j 0))) => prod15 g 0 3 3 [4, (a : Int), (b : Int)] w rfl (by decide) hc
  simp only [A] at P
  have P' := Lib.hid P
  obtain ⟨n, hn⟩ : ∃ n : Nat, 4 * (a * b) = n := ⟨_, rfl⟩
  rw [hn] at P' ⊢
  clear K L A P hn
  go_enter Tryz.func69, Tryz.ntmps69
  go_wp2_with fail
  refine K'.out.mono ?_
  rintro e w' ⟨rfl, rfl⟩
  go_wp2_with fail
  refine L'.out.mono ?_
  rintro e w' ⟨rfl, rfl⟩
  go_wp2_with fail
  refine (P'.out _ _ ?_).mono ?_
  · intro j hj
    rw [Nat.zero_add]
    refine (blk_cell (blk_new _ _ _) j).trans ?_
    obtain rfl | rfl | rfl : j = 0 ∨ j = 1 ∨ j = 2 := by omega
    all_goals rfl
  rintro e w' ⟨rfl, rfl⟩
  go_wp2
  go_ret2
  exact ⟨rfl, World.grownBy_alloc _ _ _⟩

/-- Block r is a raster of the ledger l, of sides a and b; its buffer is block c. -/
def RC (l c a b : Nat) : Array Value := #[.pointer (some ⟨l, 0, none⟩), .int .i64 a, .int .i64 b, .pointer (some ⟨c, 0, none⟩)]
structure Ro (r l c g a b : Nat) (s : ByteArray) (w : World) : Prop where
  blk : w.heap[r]? = some (.cells (RC l c a b) 122 (0, 0))
  buf : BOpen c l g s w
  sz : s.size = 4 * (a * b)
  rl : r ≠ l
  rc : r ≠ c
  rg : r ≠ g
theorem Ro.lt {r l c g a b : Nat} {s : ByteArray} {w : World} (h : Ro r l c g a b s w) : r < w.heap.size := blk_lt h.blk
theorem Ro.grown {r l c g a b : Nat} {s : ByteArray} {w w' : World} {q : Option Nat} (h : Ro r l c g a b s w) (k : w.grownBy w' q) (h1 : some r ≠ q) (h2 : some c ≠ q) (h3 : some g ≠ q) : Ro r l c g a b s w' :=
  ⟨(k.block r h.lt h1).trans h.blk, h.buf.grown k h2 h3, h.sz, h.rl, h.rc, h.rg⟩

theorem new_arg (a b : Int) (w : World) : Calls Tryz.prog 40 #[.pointer none, .int .i64 a, .int .i64 b] w fun e w' => e = .returned (.tuple #[.pointer none, .int .i64 1]) ∧ w = w' := by
  go_enter Tryz.func40, Tryz.ntmps40
  go_wp2
  go_ret2
  exact ⟨rfl, rfl⟩

theorem new_range (l : Nat) (a b : Int) (w : World) (h : badS a b) : Calls Tryz.prog 40 #[.pointer (some ⟨l, 0, none⟩), .int .i64 a, .int .i64 b] w fun e w' => e = .returned (.tuple #[.pointer none, .int .i64 2]) ∧ w = w' := by
  have K := Lib.hid (size_no a b w h)
  clear h
  go_enter Tryz.func40, Tryz.ntmps40
  go_wp2_with fail
  refine K.out.mono ?_
  rintro e w' ⟨rfl, rfl⟩
  go_wp2
  go_ret2
  exact ⟨rfl, rfl⟩

set_option maxRecDepth 100000 in
theorem new_sides (l : Nat) (x : St) (a b : Nat) (w : World) (h : Led l x.ls w) (a0 : 1 ≤ a) (a1 : a ≤ 16384) (b0 : 1 ≤ b) (b1 : b ≤ 16384) (hs : (x.sides a b).2 = false) :
    Calls Tryz.prog 40 #[.pointer (some ⟨l, 0, none⟩), .int .i64 a, .int .i64 b] w
      fun e w' => e = .returned (.tuple #[.pointer none, .int .i64 4]) ∧ Led l (x.sides a b).1.ls w' ∧ w.grownBy w' (some l) := by
  have K := Lib.hid (size_yes a b w a0 a1 b0 b1)
  have S := fun w => sides_calls l x a b w
  simp only [hs] at S
  have S' := Lib.hid S
  have H := Lib.hid h
  obtain ⟨n, hn⟩ : ∃ n : Nat, 4 * (a * b) = n := ⟨_, rfl⟩
  rw [hn] at K
  obtain ⟨y, hy⟩ : ∃ y, (x.sides a b).1 = y := ⟨_, rfl⟩
  simp only [hy] at S' ⊢
  clear S h hs hn hy
  go_enter Tryz.func40, Tryz.ntmps40
  go_wp2_with fail
  refine K.out.mono ?_
  rintro e w1 ⟨rfl, g1⟩
  have H1 := Lib.hid (H.out.grown g1 (by simp))
  have G1 := Lib.hid g1
  clear g1 H
  go_wp2_with fail
  refine (S'.out _ H1.out).mono ?_
  rintro e w2 ⟨rfl, L2, g2⟩
  have H2 := Lib.hid L2
  have G2 := Lib.hid g2
  clear L2 g2
  go_wp2
  go_ret2
  exact ⟨rfl, H2.out, gb_trans (gb_any G1.out _) G2.out⟩

set_option maxRecDepth 100000 in
theorem new_spent (l : Nat) (x : St) (a b : Nat) (w : World) (h : Led l x.ls w) (ok : x.Ok) (a0 : 1 ≤ a) (a1 : a ≤ 16384) (b0 : 1 ≤ b) (b1 : b ≤ 16384) (hs : x.sides a b = (x, true)) (ht : (x.take (4 * (a * b) : Nat)).2 = false) :
    Calls Tryz.prog 40 #[.pointer (some ⟨l, 0, none⟩), .int .i64 a, .int .i64 b] w
      fun e w' => e = .returned (.tuple #[.pointer none, .int .i64 4]) ∧ Led l (x.take (4 * (a * b) : Nat)).1.ls w' ∧ w.grownBy w' (some l) := by
  have K := Lib.hid (size_yes a b w a0 a1 b0 b1)
  have S := fun w => sides_calls l x a b w
  simp only [hs] at S
  have S' := Lib.hid S
  have H := Lib.hid h
  obtain ⟨n, hn⟩ : ∃ n : Nat, 4 * (a * b) = n := ⟨_, rfl⟩
  rw [hn] at K ht ⊢
  have M := Lib.hid (fun w h => make_spent l x n w h ok (by omega) ht)
  obtain ⟨y, hy⟩ : ∃ y, (x.take (n : Int)).1 = y := ⟨_, rfl⟩
  simp only [hy] at M ⊢
  clear S h hs hn hy ht ok
  go_enter Tryz.func40, Tryz.ntmps40
  go_wp2_with fail
  refine K.out.mono ?_
  rintro e w1 ⟨rfl, g1⟩
  have H1 := Lib.hid (H.out.grown g1 (by simp))
  have G1 := Lib.hid g1
  clear g1 H
  go_wp2_with fail
  refine (S'.out _ H1.out).mono ?_
  rintro e w2 ⟨rfl, L2, g2⟩
  have H2 := Lib.hid L2
  have G2 := Lib.hid g2
  clear L2 g2
  go_wp2_with fail
  refine (M.out _ H2.out).mono ?_
  rintro e w3 ⟨rfl, L3, g3⟩
  have H3 := Lib.hid L3
  have G3 := Lib.hid g3
  clear L3 g3
  go_wp2
  go_ret2
  exact ⟨rfl, H3.out, gb_trans (gb_trans (gb_any G1.out _) G2.out) G3.out⟩

set_option maxRecDepth 100000 in
theorem new_yes (l : Nat) (x : St) (a b : Nat) (w : World) (h : Led l x.ls w) (ok : x.Ok) (a0 : 1 ≤ a) (a1 : a ≤ 16384) (b0 : 1 ≤ b) (b1 : b ≤ 16384) (hs : x.sides a b = (x, true)) (ht : (x.take (4 * (a * b) : Nat)).2 = true) :
    Calls Tryz.prog 40 #[.pointer (some ⟨l, 0, none⟩), .int .i64 a, .int .i64 b] w
      fun e w' => ∃ r c g, e = .returned (.tuple #[.pointer (some ⟨r, 0, none⟩), .int .i64 0]) ∧ Ro r l c g a b (rep 0 (4 * (a * b))) w' ∧ Led l (x.take (4 * (a * b) : Nat)).1.ls w' ∧ w.grownBy w' (some l) ∧ w.heap.size ≤ r ∧ w.heap.size ≤ c ∧ w.heap.size ≤ g := by
  have K := Lib.hid (size_yes a b w a0 a1 b0 b1)
  have S := fun w => sides_calls l x a b w
  simp only [hs] at S
  have S' := Lib.hid S
  have H := Lib.hid h
  have hlt := h.lt
  have hle : a * b ≤ 16384 * 16384 := Nat.mul_le_mul a1 b1
  obtain ⟨n, hn⟩ : ∃ n : Nat, 4 * (a * b) = n := ⟨_, rfl⟩
  have HN := Lib.hid hn
  rw [hn] at K ht ⊢
  have M := Lib.hid (fun w h => make_yes l x n w h ok (by omega) ht)
  obtain ⟨y, hy⟩ : ∃ y, (x.take (n : Int)).1 = y := ⟨_, rfl⟩
  simp only [hy] at M ⊢
  clear S h hs hn hy ht ok hle
  go_enter Tryz.func40, Tryz.ntmps40
  go_wp2_with fail
  refine K.out.mono ?_
  rintro e w1 ⟨rfl, g1⟩
  have H1 := Lib.hid (H.out.grown g1 (by simp))
  have z1 := g1.size
  have G1 := Lib.hid g1
  clear g1 H
  go_wp2_with fail
  refine (S'.out _ H1.out).mono ?_
  rintro e w2 ⟨rfl, L2, g2⟩
  have H2 := Lib.hid L2
  have z2 := g2.size
  have G2 := Lib.hid g2
  clear L2 g2
  go_wp2_with fail
  refine (M.out _ H2.out).mono ?_
  rintro e w3 ⟨c, g, rfl, ⟨B3, L3⟩, g3, hc, hg⟩
  have H3 := Lib.hid L3
  have HB := Lib.hid B3
  have z3 := g3.size
  have c3 := B3.lt
  have q3 := B3.glt
  have G3 := Lib.hid g3
  clear L3 g3 B3
  go_wp2
  go_ret2
  exact ⟨w3.heap.size, c, g, rfl, ⟨blk_at, HB.out.grown (World.grownBy_alloc _ _ none) (by simp) (by simp), by rw [rep_size, HN.out], by omega, by omega, by omega⟩,
    H3.out.alloc _, gb_trans (gb_trans (gb_trans (gb_any G1.out _) G2.out) G3.out) (World.grownBy_alloc _ _ _), by omega, by omega, by omega⟩

end Go.Proofs.YtjdhlehpoclnjaaGreat.Ra
