/- Layer 9: math/bits' TrailingZeros32 and OnesCount32; the code's ones, hasBits, count: walked. -/
import Derived.Test.YtgggdieedblpjaaDoorMas2
import Derived.Test.YtgggdieedblpjaaDoorSca2
import Derived.Test.YtgggdieedblpjaaDoorTn
import Derived.Shelf.Spec.TrailingZeros
import Derived.Lib.Tables
import Derived.Lib.BitFns
import Derived.Deep.RegionHeld3
import Derived.Laws.ResultCell
namespace Go.Proofs.YtgggdieedblpjaaDoor.Ma
open Go.ChangeShapes Go.WideShapes Go.ChangeAt Go.RowKit
open Go.Proofs.YtgggdieedblpjaaDoor.Le Go.Proofs.YtgggdieedblpjaaDoor.Sc
set_option linter.unusedVariables false

/-- The library's table, in its variable. -/
def Tab (w : World) : Prop := TabAt 0 Lib.deBruijn32tab w
theorem Tab.grown {w w' : World} (h : Tab w) (hlt : 0 < w.heap.size) (g : w.grownBy w' none) : Tab w' := fun j hj => by
  have := h j hj
  exact g.cell this (by simp)

theorem tz_core (x k idx : Nat) (w : World) (hx0 : ((x : Int) == 0) = false)
    (key : bits BinOp.and IntKind.u32 (x : Int) (-(x : Int) % 4294967296) * 125613361 % 4294967296 / 134217728 = (idx : Int))
    (hi : idx < 32) (hk : k < 32) (hcell : w.cell? ⟨0, idx, none⟩ = some (.int .u8 k)) :
    Calls Tryd.prog 75 #[.int .u32 x] w fun e w' => e = .returned (.int .i64 k) ∧ w = w' := by
  go_enter Tryd.func75, Tryd.ntmps75
  go_wp2_with (simp only [key])
  go_ret
  exact ⟨rfl, rfl⟩

theorem tz_calls (x : Nat) (w : World) (hx : x < 4294967296) (hx0 : x ≠ 0) (hT : Tab w) :
    Calls Tryd.prog 75 #[.int .u32 x] w fun e w' => e = .returned (.int .i64 (Lib.ctz 32 x : Nat)) ∧ w = w' := by
  obtain ⟨hlow, hk⟩ := Lib.lowest_bit 32 x hx0 hx
  obtain ⟨hi, htab⟩ := Lib.deBruijn32_at _ hk
  have hcell := hT _ hi
  rw [htab] at hcell
  exact tz_core x _ _ w (by simp; omega) (tz32_key x _ hx hx0 hlow) hi hk hcell

theorem tz_lt (x : Nat) (hx : x < 4294967296) (hx0 : x ≠ 0) : Lib.ctz 32 x < 32 := (Lib.lowest_bit 32 x hx0 hx).2

/-- How many bits are 1, as the library's table tells them, byte by byte. -/
def popN (x : Nat) : Nat := Lib.onesCount (x / 16777216) + Lib.onesCount (x / 65536 % 256) + Lib.onesCount (x / 256 % 256) + Lib.onesCount (x % 256)

theorem pop_at (b : Nat) (h : b ≤ 255) : ∃ p : Nat, Lib.pop8 (b : Int) = (p : Int) ∧ Lib.onesCount b = p ∧ p ≤ 8 :=
  ⟨_, Lib.pop8_eq ⟨b, by omega⟩, rfl, Lib.onesCount_le8 ⟨b, by omega⟩⟩

theorem fold_pop : ({ data := ((([0, 1, 1, 2, 1, 2, 2, 3, 1, 2, 2, 3, 2, 3, 3, 4, 1, 2, 2, 3, 2, 3, 3, 4, 2, 3, 3, 4, 3, 4, 4, 5, 1, 2, 2, 3, 2, 3, 3, 4, 2, 3, 3, 4, 3, 4, 4, 5, 2, 3, 3, 4, 3, 4, 4, 5, 3, 4, 4, 5, 4, 5, 5, 6] : List UInt8).append [1, 2, 2, 3, 2, 3, 3, 4, 2, 3, 3, 4, 3, 4, 4, 5, 2, 3, 3, 4, 3, 4, 4, 5, 3, 4, 4, 5, 4, 5, 5, 6, 2, 3, 3, 4, 3, 4, 4, 5, 3, 4, 4, 5, 4, 5, 5, 6, 3, 4, 4, 5, 4, 5, 5, 6, 4, 5, 5, 6, 5, 6, 6, 7]).append (([1, 2, 2, 3, 2, 3, 3, 4, 2, 3, 3, 4, 3, 4, 4, 5, 2, 3, 3, 4, 3, 4, 4, 5, 3, 4, 4, 5, 4, 5, 5, 6, 2, 3, 3, 4, 3, 4, 4, 5, 3, 4, 4, 5, 4, 5, 5, 6, 3, 4, 4, 5, 4, 5, 5, 6, 4, 5, 5, 6, 5, 6, 6, 7] : List UInt8).append [2, 3, 3, 4, 3, 4, 4, 5, 3, 4, 4, 5, 4, 5, 5, 6, 3, 4, 4, 5, 4, 5, 5, 6, 4, 5, 5, 6, 5, 6, 6, 7, 3, 4, 4, 5, 4, 5, 5, 6, 4, 5, 5, 6, 5, 6, 6, 7, 4, 5, 5, 6, 5, 6, 6, 7, 5, 6, 6, 7, 6, 7, 7, 8])).toArray } : ByteArray) = Lib.pop8tab := by kernel_rfl

theorem wrap_u8' (n : Int) : IntKind.u8.wrap n = n % 256 := by simp [IntKind.wrap, IntKind.signed, IntKind.bits]
theorem and_255 (a : Nat) (h : a < 4294967296) : bits BinOp.and IntKind.u32 (a : Int) 255 = (a : Int) % 256 := by
  have e := bits_and_u32_nat a 255 h (by decide)
  rw [Nat.and_two_pow_sub_one_eq_mod a 8] at e
  exact e

set_option maxRecDepth 100000 in
theorem ones_count (x : Nat) (w : World) (hx : x < 4294967296) :
    Calls Tryd.prog 76 #[.int .u32 x] w fun e w' => e = .returned (.int .i64 (popN x : Nat)) ∧ w.grownBy w' none := by
  obtain ⟨p0, a0, b0, c0⟩ := pop_at (x / 16777216) (by omega)
  obtain ⟨p1, a1, b1, c1⟩ := pop_at (x / 65536 % 256) (by omega)
  obtain ⟨p2, a2, b2, c2⟩ := pop_at (x / 256 % 256) (by omega)
  obtain ⟨p3, a3, b3, c3⟩ := pop_at (x % 256) (by omega)
  have e : popN x = p0 + p1 + p2 + p3 := by unfold popN; rw [b0, b1, b2, b3]
  rw [e]
  have i0 : (0 : Int) ≤ (x : Int) / 16777216 := by omega
  have i1 : (x : Int) / 16777216 ≤ 255 := by omega
  have a0' : Lib.pop8 ((x : Int) / 16777216) = p0 := by rw [← a0]; rfl
  have a1' : Lib.pop8 ((x : Int) / 65536 % 256) = p1 := by rw [← a1]; rfl
  have a2' : Lib.pop8 ((x : Int) / 256 % 256) = p2 := by rw [← a2]; rfl
  have a3' : Lib.pop8 ((x : Int) % 256) = p3 := by rw [← a3]; rfl
  have m1 : bits BinOp.and IntKind.u32 ((x : Int) / 65536) 255 = (x : Int) / 65536 % 256 := and_255 (x / 65536) (by omega)
  have m2 : bits BinOp.and IntKind.u32 ((x : Int) / 256) 255 = (x : Int) / 256 % 256 := and_255 (x / 256) (by omega)
  have m3 : bits BinOp.and IntKind.u32 (x : Int) 255 = (x : Int) % 256 := and_255 x hx
  have w1 : IntKind.u8.wrap ((p0 : Int) + p1) = (p0 : Int) + p1 := by rw [wrap_u8']; omega
  have w2 : IntKind.u8.wrap ((p0 : Int) + p1 + p2) = (p0 : Int) + p1 + p2 := by rw [wrap_u8']; omega
  have w3 : IntKind.u8.wrap ((p0 : Int) + p1 + p2 + p3) = (p0 : Int) + p1 + p2 + p3 := by rw [wrap_u8']; omega
  have w4 : IntKind.i64.wrap ((p0 : Int) + p1 + p2 + p3) = (p0 : Int) + p1 + p2 + p3 := by rw [IntKind.wrap_i64]; omega
  clear e b0 b1 b2 b3 a0 a1 a2 a3
  go_enter Tryd.func76, Tryd.ntmps76
  simp only [fold_pop]
  go_wp2
  go_quiet (fail)
  go_wp2
  go_ret
  exact ⟨by go_num, gb_drewN _ _ _⟩

theorem pw_int (n : Nat) : (2 : Int) ^ n = pw n := by unfold pw; simp
theorem pw_le63 {n : Nat} (h : n ≤ 32) : 1 ≤ pw n ∧ pw n ≤ 4294967296 := pw_le h

theorem ones_calls (n : Nat) (w : World) (hn : n ≤ 32) : Calls Tryd.prog 57 #[.int .i64 n] w fun e w' => e = .returned (.int .i64 (pw n - 1)) ∧ w = w' := by
  obtain ⟨b0, b1⟩ := pw_le hn
  have e := pw_int n
  obtain ⟨p, hp⟩ : ∃ p, pw n = p := ⟨_, rfl⟩
  rw [hp] at b0 b1 e ⊢
  clear hp
  go_enter Tryd.func57, Tryd.ntmps57
  go_wp2
  go_ret
  exact ⟨rfl, rfl⟩

/-- Is it the place of bits of a long word? -/
def hasB (s n : Int) : Bool := decide (1 ≤ n) && (decide (0 ≤ s) && decide (n ≤ 32 - s))

set_option maxRecDepth 100000 in
theorem has_calls (s n : Int) (w : World) (h : 0 ≤ s) (h2 : s ≤ 32) : Calls Tryd.prog 56 #[.agg #[.int .i64 s, .int .i64 n]] w fun e w' => e = .returned (.bool (hasB s n)) ∧ w.grownBy w' none := by
  unfold hasB
  go_enter Tryd.func56, Tryd.ntmps56
  by_cases h1 : 1 ≤ n
  · by_cases h3 : n ≤ 32 - s
    · have e : (decide (1 ≤ n) && (decide (0 ≤ s) && decide (n ≤ 32 - s))) = true := by simp [h1, h, h3]
      rw [e]
      clear e
      go_wp2
      go_ret
      exact ⟨rfl, World.grownBy_alloc _ _ _⟩
    · have e : (decide (1 ≤ n) && (decide (0 ≤ s) && decide (n ≤ 32 - s))) = false := by simp [h3]
      rw [e]
      clear e
      have h4 : 32 - s < n := by omega
      go_wp2
      go_ret
      exact ⟨rfl, World.grownBy_alloc _ _ _⟩
  · have e : (decide (1 ≤ n) && (decide (0 ≤ s) && decide (n ≤ 32 - s))) = false := by simp [h1]
    rw [e]
    clear e
    have h4 : n < 1 := by omega
    go_wp2
    go_ret
    exact ⟨rfl, World.grownBy_alloc _ _ _⟩

end Go.Proofs.YtgggdieedblpjaaDoor.Ma
