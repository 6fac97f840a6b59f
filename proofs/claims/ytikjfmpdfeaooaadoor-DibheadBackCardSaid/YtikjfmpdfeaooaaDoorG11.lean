/- Texts of one kind, one behind the other: Mas7, Mas8, Mas9, MasA, MasB. -/
import Derived.Deep.RegionHeld3
import Derived.Laws.ResultCell
import Derived.Lib.BitFns
import Derived.Lib.Tables
import Derived.Shelf.Spec.TrailingZeros
import Derived.Test.YtikjfmpdfeaooaaDoorG05
import Derived.Test.YtikjfmpdfeaooaaDoorG10
/- Layer 9: math/bits' TrailingZeros32 and OnesCount32; the code's ones, hasBits, count: walked. -/
namespace Go.Proofs.YtikjfmpdfeaooaaDoor.Ma
open Go.ChangeShapes Go.WideShapes Go.ChangeAt Go.RowKit
open Go.Proofs.YtikjfmpdfeaooaaDoor.Le Go.Proofs.YtikjfmpdfeaooaaDoor.Sc
set_option linter.unusedVariables false

/-- The library's table, in its variable. -/
def Tab (w : World) : Prop := TabAt 0 Lib.deBruijn32tab w
theorem Tab.grown {w w' : World} (h : Tab w) (hlt : 0 < w.heap.size) (g : w.grownBy w' none) : Tab w' := fun j hj => by
  have := h j hj
  exact g.cell this (by simp)

theorem tz_core (x k idx : Nat) (w : World) (hx0 : ((x : Int) == 0) = false)
    (key : bits BinOp.and IntKind.u32 (x : Int) (-(x : Int) % 4294967296) * 125613361 % 4294967296 / 134217728 = (idx : Int))
    (hi : idx < 32) (hk : k < 32) (hcell : w.cell? ⟨0, idx, none⟩ = some (.int .u8 k)) :
    Calls Tryd.prog 75 #[.int .u32 x] w fun e w' => e = .returned (.int .i64 k) ∧ w = w' := by
  go_enter Tryd.func75, Tryd.ntmps75
  go_wp2_with (simp only [key])
  go_ret
  exact ⟨rfl, rfl⟩

theorem tz_calls (x : Nat) (w : World) (hx : x < 4294967296) (hx0 : x ≠ 0) (hT : Tab w) :
    Calls Tryd.prog 75 #[.int .u32 x] w fun e w' => e = .returned (.int .i64 (Lib.ctz 32 x : Nat)) ∧ w = w' := by
  obtain ⟨hlow, hk⟩ := Lib.lowest_bit 32 x hx0 hx
  obtain ⟨hi, htab⟩ := Lib.deBruijn32_at _ hk
  have hcell := hT _ hi
  rw [htab] at hcell
  exact tz_core x _ _ w (by simp; omega) (tz32_key x _ hx hx0 hlow) hi hk hcell

theorem tz_lt (x : Nat) (hx : x < 4294967296) (hx0 : x ≠ 0) : Lib.ctz 32 x < 32 := (Lib.lowest_bit 32 x hx0 hx).2

/-- How many bits are 1, as the library's table tells them, byte by byte. -/
def popN (x : Nat) : Nat := Lib.onesCount (x / 16777216) + Lib.onesCount (x / 65536 % 256) + Lib.onesCount (x / 256 % 256) + Lib.onesCount (x % 256)

theorem pop_at (b : Nat) (h : b ≤ 255) : ∃ p : Nat, Lib.pop8 (b : Int) = (p : Int) ∧ Lib.onesCount b = p ∧ p ≤ 8 :=
  ⟨_, Lib.pop8_eq ⟨b, by omega⟩, rfl, Lib.onesCount_le8 ⟨b, by omega⟩⟩

theorem fold_pop : ({ data := ((([0, 1, 1, 2, 1, 2, 2, 3, 1, 2, 2, 3, 2, 3, 3, 4, 1, 2, 2, 3, 2, 3, 3, 4, 2, 3, 3, 4, 3, 4, 4, 5, 1, 2, 2, 3, 2, 3, 3, 4, 2, 3, 3, 4, 3, 4, 4, 5, 2, 3, 3, 4, 3, 4, 4, 5, 3, 4, 4, 5, 4, 5, 5, 6] : List UInt8).append [1, 2, 2, 3, 2, 3, 3, 4, 2, 3, 3, 4, 3, 4, 4, 5, 2, 3, 3, 4, 3, 4, 4, 5, 3, 4, 4, 5, 4, 5, 5, 6, 2, 3, 3, 4, 3, 4, 4, 5, 3, 4, 4, 5, 4, 5, 5, 6, 3, 4, 4, 5, 4, 5, 5, 6, 4, 5, 5, 6, 5, 6, 6, 7]).append (([1, 2, 2, 3, 2, 3, 3, 4, 2, 3, 3, 4, 3, 4, 4, 5, 2, 3, 3, 4, 3, 4, 4, 5, 3, 4, 4, 5, 4, 5, 5, 6, 2, 3, 3, 4, 3, 4, 4, 5, 3, 4, 4, 5, 4, 5, 5, 6, 3, 4, 4, 5, 4, 5, 5, 6, 4, 5, 5, 6, 5, 6, 6, 7] : List UInt8).append [2, 3, 3, 4, 3, 4, 4, 5, 3, 4, 4, 5, 4, 5, 5, 6, 3, 4, 4, 5, 4, 5, 5, 6, 4, 5, 5, 6, 5, 6, 6, 7, 3, 4, 4, 5, 4, 5, 5, 6, 4, 5, 5, 6, 5, 6, 6, 7, 4, 5, 5, 6, 5, 6, 6, 7, 5, 6, 6, 7, 6, 7, 7, 8])).toArray } : ByteArray) = Lib.pop8tab := by kernel_rfl

theorem wrap_u8' (n : Int) : IntKind.u8.wrap n = n % 256 := by simp [IntKind.wrap, IntKind.signed, IntKind.bits]
theorem and_255 (a : Nat) (h : a < 4294967296) : bits BinOp.and IntKind.u32 (a : Int) 255 = (a : Int) % 256 := by
  have e := bits_and_u32_nat a 255 h (by decide)
  rw [Nat.and_two_pow_sub_one_eq_mod a 8] at e
  exact e

set_option maxRecDepth 100000 in
theorem ones_count (x : Nat) (w : World) (hx : x < 4294967296) :
    Calls Tryd.prog 76 #[.int .u32 x] w fun e w' => e = .returned (.int .i64 (popN x : Nat)) ∧ w.grownBy w' none := by
  obtain ⟨p0, a0, b0, c0⟩ := pop_at (x / 16777216) (by omega)
  obtain ⟨p1, a1, b1, c1⟩ := pop_at (x / 65536 % 256) (by omega)
  obtain ⟨p2, a2, b2, c2⟩ := pop_at (x / 256 % 256) (by omega)
  obtain ⟨p3, a3, b3, c3⟩ := pop_at (x % 256) (by omega)
  have e : popN x = p0 + p1 + p2 + p3 := by unfold popN; rw [b0, b1, b2, b3]
  rw [e]
  have i0 : (0 : Int) ≤ (x : Int) / 16777216 := by omega
  have i1 : (x : Int) / 16777216 ≤ 255 := by omega
  have a0' : Lib.pop8 ((x : Int) / 16777216) = p0 := by rw [← a0]; rfl
  have a1' : Lib.pop8 ((x : Int) / 65536 % 256) = p1 := by rw [← a1]; rfl
  have a2' : Lib.pop8 ((x : Int) / 256 % 256) = p2 := by rw [← a2]; rfl
  have a3' : Lib.pop8 ((x : Int) % 256) = p3 := by rw [← a3]; rfl
  have m1 : bits BinOp.and IntKind.u32 ((x : Int) / 65536) 255 = (x : Int) / 65536 % 256 := and_255 (x / 65536) (by omega)
  have m2 : bits BinOp.and IntKind.u32 ((x : Int) / 256) 255 = (x : Int) / 256 % 256 := and_255 (x / 256) (by omega)
  have m3 : bits BinOp.and IntKind.u32 (x : Int) 255 = (x : Int) % 256 := and_255 x hx
  have w1 : IntKind.u8.wrap ((p0 : Int) + p1) = (p0 : Int) + p1 := by rw [wrap_u8']; omega
  have w2 : IntKind.u8.wrap ((p0 : Int) + p1 + p2) = (p0 : Int) + p1 + p2 := by rw [wrap_u8']; omega
  have w3 : IntKind.u8.wrap ((p0 : Int) + p1 + p2 + p3) = (p0 : Int) + p1 + p2 + p3 := by rw [wrap_u8']; omega
  have w4 : IntKind.i64.wrap ((p0 : Int) + p1 + p2 + p3) = (p0 : Int) + p1 + p2 + p3 := by rw [IntKind.wrap_i64]; omega
  clear e b0 b1 b2 b3 a0 a1 a2 a3
  go_enter Tryd.func76, Tryd.ntmps76
  simp only [fold_pop]
  go_wp2
  go_quiet (fail)
  go_wp2
  go_ret
  exact ⟨by go_num, gb_drewN _ _ _⟩

theorem pw_int (n : Nat) : (2 : Int) ^ n = pw n := by unfold pw; simp
theorem ones_calls (n : Nat) (w : World) (hn : n ≤ 32) : Calls Tryd.prog 57 #[.int .i64 n] w fun e w' => e = .returned (.int .i64 (pw n - 1)) ∧ w = w' := by
  obtain ⟨b0, b1⟩ := pw_le hn
  have e := pw_int n
  obtain ⟨p, hp⟩ : ∃ p, pw n = p := ⟨_, rfl⟩
  rw [hp] at b0 b1 e ⊢
  clear hp
  go_enter Tryd.func57, Tryd.ntmps57
  go_wp2
  go_ret
  exact ⟨rfl, rfl⟩

/-- Is it the place of bits of a long word? -/
def hasB (s n : Int) : Bool := decide (1 ≤ n) && (decide (0 ≤ s) && decide (n ≤ 32 - s))

set_option maxRecDepth 100000 in
theorem has_calls (s n : Int) (w : World) (h : 0 ≤ s) (h2 : s ≤ 32) : Calls Tryd.prog 56 #[.agg #[.int .i64 s, .int .i64 n]] w fun e w' => e = .returned (.bool (hasB s n)) ∧ w.grownBy w' none := by
  unfold hasB
  go_enter Tryd.func56, Tryd.ntmps56
  by_cases h1 : 1 ≤ n
  · by_cases h3 : n ≤ 32 - s
    · have e : (decide (1 ≤ n) && (decide (0 ≤ s) && decide (n ≤ 32 - s))) = true := by simp [h1, h, h3]
      rw [e]
      clear e
      go_wp2
      go_ret
      exact ⟨rfl, World.grownBy_alloc _ _ _⟩
    · have e : (decide (1 ≤ n) && (decide (0 ≤ s) && decide (n ≤ 32 - s))) = false := by simp [h3]
      rw [e]
      clear e
      have h4 : 32 - s < n := by omega
      go_wp2
      go_ret
      exact ⟨rfl, World.grownBy_alloc _ _ _⟩
  · have e : (decide (1 ≤ n) && (decide (0 ≤ s) && decide (n ≤ 32 - s))) = false := by simp [h1]
    rw [e]
    clear e
    have h4 : n < 1 := by omega
    go_wp2
    go_ret
    exact ⟨rfl, World.grownBy_alloc _ _ _⟩

end Go.Proofs.YtikjfmpdfeaooaaDoor.Ma

/- Layer 9: the code's Of, Word, fit, count: walked. -/
namespace Go.Proofs.YtikjfmpdfeaooaaDoor.Ma
open Go.ChangeShapes Go.WideShapes Go.ChangeAt Go.RowKit
open Go.Proofs.YtikjfmpdfeaooaaDoor.Le Go.Proofs.YtikjfmpdfeaooaaDoor.Sc
set_option linter.unusedVariables false

theorem has_yes {s n : Nat} (h1 : 1 ≤ n) (h : s + n ≤ 32) : hasB s n = true := by
  unfold hasB
  rw [decide_eq_true (by omega), decide_eq_true (by omega), decide_eq_true (by omega)]
  rfl

theorem blk_int (s n : Nat) : (pw n - 1) * 2 ^ s = ((blk s n : Nat) : Int) := by
  unfold blk pw
  have h : 1 ≤ 2 ^ n := Nat.pow_pos (by decide)
  rw [Int.natCast_mul, Int.natCast_sub h]
  simp
theorem blk_lt32 {s n : Nat} (h : s + n ≤ 32) : blk s n < 4294967296 := by
  unfold blk
  have h0 : 1 ≤ 2 ^ n := Nat.pow_pos (by decide)
  have h1 : 1 ≤ 2 ^ s := Nat.pow_pos (by decide)
  have h2 : 2 ^ n * 2 ^ s ≤ 2 ^ 32 := by rw [← Nat.pow_add]; exact Nat.pow_le_pow_right (by decide) (by omega)
  have h3 : (2 ^ n - 1) * 2 ^ s = 2 ^ n * 2 ^ s - 2 ^ s := by rw [Nat.sub_mul, Nat.one_mul]
  have h4 : (2 : Nat) ^ 32 = 4294967296 := by decide
  omega

set_option maxRecDepth 100000 in
theorem word_no (s n : Int) (w : World) (h : 0 ≤ s) (h2 : s ≤ 32) (hb : hasB s n = false) : Calls Tryd.prog 36 #[.agg #[.int .i64 s, .int .i64 n]] w fun e w' => e = .returned (.int .i64 0) ∧ w.grownBy w' none := by
  have K := fun u => has_calls s n u h h2
  simp only [hb] at K
  have K' := Lib.hid K
  clear K hb
  go_enter Tryd.func36, Tryd.ntmps36
  go_wp2_with fail
  refine (K'.out _).mono ?_
  rintro e w1 ⟨rfl, g1⟩
  have G := Lib.hid (gb_trans (World.grownBy_alloc _ _ _) g1)
  clear g1
  go_wp2
  go_ret
  exact ⟨rfl, G.out⟩

set_option maxRecDepth 100000 in
theorem word_yes (s n : Nat) (w : World) (h1 : 1 ≤ n) (h : s + n ≤ 32) : Calls Tryd.prog 36 #[.agg #[.int .i64 s, .int .i64 n]] w fun e w' => e = .returned (.int .i64 (blk s n : Nat)) ∧ w.grownBy w' none := by
  have K := fun u => has_calls s n u (by omega) (by omega)
  simp only [has_yes h1 h] at K
  have O := fun u => ones_calls n u (by omega)
  have hm := blk_int s n
  have hl := blk_lt32 h
  obtain ⟨m, hM⟩ : ∃ m, blk s n = m := ⟨_, rfl⟩
  obtain ⟨p, hp⟩ : ∃ p, pw n - 1 = p := ⟨_, rfl⟩
  rw [hM] at hm hl ⊢
  rw [hp] at hm
  simp only [hp] at O
  have hw : IntKind.i64.wrap (p * 2 ^ s) = (m : Int) := by rw [hm, IntKind.wrap_i64]; omega
  have K' := Lib.hid K
  have O' := Lib.hid O
  have HW := Lib.hid hw
  have HM := Lib.hid hm
  clear K O hM hp hm hw
  go_enter Tryd.func36, Tryd.ntmps36
  go_wp2_with fail
  have hbox : (w.alloc (.cells #[.int .i64 (s : Int), .int .i64 (n : Int)] 27)).heap[w.heap.size]? = some (.cells #[.int .i64 (s : Int), .int .i64 (n : Int)] 27 (0, 0)) := blk_at
  have HB := Lib.hid hbox
  clear hbox
  refine (K'.out _).mono ?_
  rintro e w1 ⟨rfl, g1⟩
  have B2 := (g1.block _ (blk_lt HB.out) (by simp)).trans HB.out
  have c0 : w1.cell? ⟨w.heap.size, 0, none⟩ = some (.int .i64 s) := blk_cell B2 0
  have c1 : w1.cell? ⟨w.heap.size, 1, none⟩ = some (.int .i64 n) := blk_cell B2 1
  have G := Lib.hid (gb_trans (World.grownBy_alloc _ _ _) g1)
  clear g1 B2
  go_wp2_with fail
  have hw := HW.out
  have hm := HM.out
  go_quiet ((go_at_call 57; exact Calls.quiet_of_same ((O'.out _).mono (fun _ _ ⟨a, b⟩ => ⟨a, b.symm⟩))))
  go_wp2
  go_ret
  exact ⟨rfl, gb_trans G.out (gb_drewN _ _ _)⟩

/-- The mask of a place. -/
def wordV (s n : Nat) : Nat := if 1 ≤ n ∧ s + n ≤ 32 then blk s n else 0
theorem word_calls (s n : Nat) (w : World) (hs : s ≤ 32) : Calls Tryd.prog 36 #[.agg #[.int .i64 s, .int .i64 n]] w fun e w' => e = .returned (.int .i64 (wordV s n : Nat)) ∧ w.grownBy w' none := by
  unfold wordV
  by_cases h : 1 ≤ n ∧ s + n ≤ 32
  · rw [if_pos h]
    exact word_yes s n w h.1 h.2
  · rw [if_neg h]
    refine word_no s n w (by omega) (by omega) ?_
    unfold hasB
    by_cases h1 : 1 ≤ n
    · rw [decide_eq_false (show ¬ ((n : Int) ≤ 32 - s) by omega)]; simp
    · rw [decide_eq_false (show ¬ (1 ≤ (n : Int)) by omega)]; simp

end Go.Proofs.YtikjfmpdfeaooaaDoor.Ma

/- Layer 9: the code's count and Find, walked. -/
namespace Go.Proofs.YtikjfmpdfeaooaaDoor.Ma
open Go.ChangeShapes Go.WideShapes Go.ChangeAt Go.RowKit
open Go.Proofs.YtikjfmpdfeaooaaDoor.Le Go.Proofs.YtikjfmpdfeaooaaDoor.Sc
set_option linter.unusedVariables false

/-- Of bits side by side the library counts as the document. -/
theorem blk_counts : ∀ s : Fin 32, ∀ n : Fin 33, 1 ≤ n.val → s.val + n.val ≤ 32 → Lib.ctz 32 (blk s.val n.val) = s.val ∧ popN (blk s.val n.val) = n.val := by decide +kernel
theorem ctz_blk {s n : Nat} (h1 : 1 ≤ n) (h : s + n ≤ 32) : Lib.ctz 32 (blk s n) = s ∧ popN (blk s n) = n := blk_counts ⟨s, by omega⟩ ⟨n, by omega⟩ h1 h

/-- Is a word one run, or none? The mask of the place that is counted tells it. -/
theorem word_run {w W : Nat} (hW : W ≤ 32) (h0 : w ≠ 0) (h : w < 2 ^ W) (hr : runs w W ≤ 1) : wordV (Lib.ctz 32 w) (popN w) = w ∧ Lib.ctz 32 w = frm w W ∧ popN w = cnt w W := by
  rcases one_run h hr with ⟨a, _, _⟩ | ⟨a, b, c⟩
  · exact absurd a h0
  · obtain ⟨e1, e2⟩ := ctz_blk a (by omega : frm w W + cnt w W ≤ 32)
    rw [← c] at e1 e2
    refine ⟨?_, e1, e2⟩
    unfold wordV
    rw [e1, e2, if_pos ⟨a, by omega⟩, ← c]
theorem word_gap {w W : Nat} (h0 : w ≠ 0) (hr : 1 < runs w W) : wordV (Lib.ctz 32 w) (popN w) ≠ w := by
  intro h
  unfold wordV at h
  by_cases hc : 1 ≤ popN w ∧ Lib.ctz 32 w + popN w ≤ 32
  · rw [if_pos hc] at h
    obtain ⟨a, _, _⟩ := run_blk (Lib.ctz 32 w) (popN w) hc.1 W
    rw [h] at a
    split at a <;> omega
  · rw [if_neg hc] at h
    omega

set_option maxRecDepth 100000 in
theorem count_zero (w : World) : Calls Tryd.prog 70 #[.int .u32 0] w fun e w' => e = .returned (.agg #[.int .i64 0, .int .i64 0]) ∧ w.grownBy w' none := by
  go_enter Tryd.func70, Tryd.ntmps70
  go_wp2
  refine bodyPost_ret (v := .agg #[.int .i64 0, .int .i64 0]) (by simp [results, Tryd.results70, go_sem]) rfl ⟨rfl, ?_⟩
  first
    | exact World.grownBy_alloc _ _ _
    | exact gb_own (gb_own (World.grownBy_alloc _ _ _) (Nat.le_refl _) (gb_set _ _ _ _)) (Nat.le_refl _) (gb_set _ _ _ _)

set_option maxRecDepth 100000 in
theorem count_calls' (x : Nat) (w : World) (hx : x < 4294967296) (hx0 : x ≠ 0) (hT : Tab w) (hlt : 0 < w.heap.size) :
    Calls Tryd.prog 70 #[.int .u32 x] w fun e w' => e = .returned (.agg #[.int .i64 (Lib.ctz 32 x : Nat), .int .i64 (popN x : Nat)]) ∧ w.grownBy w' none := by
  have T := fun u (h : Tab u) => tz_calls x u hx hx0 h
  have C := fun u => ones_count x u hx
  obtain ⟨z, hz⟩ : ∃ z, Lib.ctz 32 x = z := ⟨_, rfl⟩
  obtain ⟨p, hp⟩ : ∃ p, popN x = p := ⟨_, rfl⟩
  simp only [hz] at T ⊢
  simp only [hp] at C ⊢
  have T' := Lib.hid T
  have C' := Lib.hid C
  have HT := Lib.hid hT
  have hxx : ((x : Int) == 0) = false := by rw [beq_eq_false_iff_ne]; omega
  clear T C hz hp hT
  go_enter Tryd.func70, Tryd.ntmps70
  go_wp2_with fail
  have hR : (w.alloc (.cells #[.int .i64 0, .int .i64 0] 27)).heap[w.heap.size]? = some (.cells #[.int .i64 0, .int .i64 0] 27 (0, 0)) := blk_at
  have hG := World.grownBy_alloc w (.cells #[.int .i64 0, .int .i64 0] 27) none
  generalize w.alloc (.cells #[.int .i64 0, .int .i64 0] 27) = w1 at hR hG ⊢
  have HR := Lib.hid hR
  have HG := Lib.hid hG
  have HT1 := Lib.hid (HT.out.grown hlt hG)
  clear hR hG
  refine (T'.out _ HT1.out).mono ?_
  rintro e w' ⟨rfl, rfl⟩
  go_wp2_with fail
  refine (C'.out _).mono ?_
  rintro e w2 ⟨rfl, g2⟩
  have R2 := (g2.block _ (blk_lt HR.out) (by simp)).trans HR.out
  have q0 : w2.cell? ⟨w.heap.size, 0, none⟩ = some (.int .i64 0) := blk_cell R2 0
  have q1 : w2.cell? ⟨w.heap.size, 1, none⟩ = some (.int .i64 0) := blk_cell R2 1
  have f0 := blk_free R2 0
  have f1 := blk_free R2 1
  have G2 := Lib.hid (gb_trans HG.out g2)
  clear g2 R2
  go_wp2
  refine bodyPost_ret (v := .agg #[.int .i64 z, .int .i64 p]) (by simp [results, Tryd.results70, go_sem, q0, q1]) rfl ⟨rfl, ?_⟩
  exact gb_own (gb_own G2.out (Nat.le_refl _) (gb_set _ _ _ _)) (Nat.le_refl _) (gb_set _ _ _ _)

end Go.Proofs.YtikjfmpdfeaooaaDoor.Ma

/- Layer 9: the code's Find, walked. -/
namespace Go.Proofs.YtikjfmpdfeaooaaDoor.Ma
open Go.ChangeShapes Go.WideShapes Go.ChangeAt Go.RowKit
open Go.Proofs.YtikjfmpdfeaooaaDoor.Le Go.Proofs.YtikjfmpdfeaooaaDoor.Sc
set_option linter.unusedVariables false

set_option maxRecDepth 100000 in
theorem find_arg (w width : Int) (W : World) (h1 : width ≠ 16) (h2 : width ≠ 32) : Calls Tryd.prog 64 #[.int .i64 w, .int .i64 width] W
    fun e w' => e = .returned (.tuple #[.agg #[.int .i64 0, .int .i64 0], .int .i64 1]) ∧ W.grownBy w' none := by
  have e1 : (width != 16) = true := by simpa using h1
  have e2 : (width != 32) = true := by simpa using h2
  go_enter Tryd.func64, Tryd.ntmps64
  go_wp2
  refine bodyPost_ret (v := .tuple #[.agg #[.int .i64 0, .int .i64 0], .int .i64 1]) (by rw [results_cell_tmp (fn := Tryd.f64) rfl]; go_simp) rfl ⟨rfl, ?_⟩
  exact World.grownBy_alloc _ _ _

set_option maxRecDepth 100000 in
theorem find_range (w : Int) (n : Nat) (W : World) (hn : n = 16 ∨ n = 32) (h : w < 0 ∨ pw n ≤ w) : Calls Tryd.prog 64 #[.int .i64 w, .int .i64 n] W
    fun e w' => e = .returned (.tuple #[.agg #[.int .i64 0, .int .i64 0], .int .i64 2]) ∧ W.grownBy w' none := by
  have P := fun u => ones_calls n u (by omega)
  obtain ⟨b0, b1⟩ := pw_le (show n ≤ 32 by omega)
  have P' := Lib.hid P
  have hn1 : ((n : Int) != 16) = false ∨ ((n : Int) != 16) = true ∧ ((n : Int) != 32) = false := by
    rcases hn with rfl | rfl
    · exact .inl rfl
    · exact .inr ⟨rfl, rfl⟩
  clear P hn
  by_cases h0 : w < 0
  · clear h
    rcases hn1 with e1 | ⟨e1, e2⟩
    all_goals
      go_enter Tryd.func64, Tryd.ntmps64
      go_wp2
      refine bodyPost_ret (v := .tuple #[.agg #[.int .i64 0, .int .i64 0], .int .i64 2]) (by rw [results_cell_tmp (fn := Tryd.f64) rfl]; go_simp) rfl ⟨rfl, ?_⟩
      exact World.grownBy_alloc _ _ _
  · have h1 : pw n - 1 < w := by omega
    clear h
    rcases hn1 with e1 | ⟨e1, e2⟩
    all_goals
      go_enter Tryd.func64, Tryd.ntmps64
      go_wp2_with fail
      refine (P'.out _).mono ?_
      rintro e w' ⟨rfl, rfl⟩
      go_wp2
      refine bodyPost_ret (v := .tuple #[.agg #[.int .i64 0, .int .i64 0], .int .i64 2]) (by rw [results_cell_tmp (fn := Tryd.f64) rfl]; go_simp) rfl ⟨rfl, ?_⟩
      exact World.grownBy_alloc _ _ _

set_option maxRecDepth 100000 in
/-- What comes behind the counting, whatever was counted. -/
theorem find_core (w n s m : Nat) (a b c : Int) (W : World) (hn : n = 16 ∨ n = 32) (h : (w : Int) < pw n) (hs : s ≤ 32) (hlt : 0 < W.heap.size) (hT : Tab W)
    (hC : ∀ u, Tab u → 0 < u.heap.size → Calls Tryd.prog 70 #[.int .u32 w] u fun e w' => e = .returned (.agg #[.int .i64 s, .int .i64 m]) ∧ u.grownBy w' none)
    (hv : (a, b, c) = if wordV s m = w then ((s : Int), (m : Int), 0) else (0, 0, 6)) :
    Calls Tryd.prog 64 #[.int .i64 w, .int .i64 n] W
    fun e w' => e = .returned (.tuple #[.agg #[.int .i64 a, .int .i64 b], .int .i64 c]) ∧ W.grownBy w' none := by
  have P := fun u => ones_calls n u (by omega)
  have V := fun u => word_calls s m u hs
  obtain ⟨b0, b1⟩ := pw_le (show n ≤ 32 by omega)
  obtain ⟨p, hp⟩ : ∃ p, pw n - 1 = p := ⟨_, rfl⟩
  have hwp : (w : Int) ≤ p := by omega
  have hw32 : (w : Int) ≤ 4294967295 := by omega
  simp only [hp] at P
  have P' := Lib.hid P
  have hn1 : ((n : Int) != 16) = false ∨ ((n : Int) != 16) = true ∧ ((n : Int) != 32) = false := by
    rcases hn with rfl | rfl
    · exact .inl rfl
    · exact .inr ⟨rfl, rfl⟩
  have C' := Lib.hid hC
  have HT := Lib.hid hT
  clear P hn hp hC hT h b0 b1
  by_cases hc : wordV s m = w
  · rw [if_pos hc] at hv
    obtain ⟨rfl, rfl, rfl⟩ : a = s ∧ b = m ∧ c = 0 := by simpa using hv
    rw [hc] at V
    have V' := Lib.hid V
    clear V hc hv
    rcases hn1 with e1 | ⟨e1, e2⟩
    all_goals
      go_enter Tryd.func64, Tryd.ntmps64
      go_wp2_with fail
      refine (P'.out _).mono ?_
      rintro e w' ⟨rfl, rfl⟩
      have hR : (W.alloc (.cells #[.int .i64 0, .int .i64 0] 27)).heap[W.heap.size]? = some (.cells #[.int .i64 0, .int .i64 0] 27 (0, 0)) := blk_at
      have hG := World.grownBy_alloc W (.cells #[.int .i64 0, .int .i64 0] 27) none
      have hz := size_alloc W (.cells #[.int .i64 0, .int .i64 0] 27)
      generalize W.alloc (.cells #[.int .i64 0, .int .i64 0] 27) = w1 at hR hG hz ⊢
      have HR := Lib.hid hR
      have HG := Lib.hid hG
      have HZ := Lib.hid hz
      have HT1 := Lib.hid (HT.out.grown hlt hG)
      have hl1 : 0 < w1.heap.size := by omega
      clear hR hG hz
      go_wp2_with fail
      refine (C'.out _ HT1.out hl1).mono ?_
      rintro e w2 ⟨rfl, g2⟩
      have R2 := Lib.hid ((g2.block _ (blk_lt HR.out) (by simp)).trans HR.out)
      have G2 := Lib.hid (gb_trans HG.out g2)
      have hz2 : W.heap.size + 1 ≤ w2.heap.size := by have := g2.size; have := HZ.out; omega
      clear g2
      go_wp2_with fail
      refine (V'.out _).mono ?_
      rintro e w3 ⟨rfl, g3⟩
      have A3 : w3.heap[w2.heap.size]? = some (.cells #[.int .i64 s, .int .i64 m] 27 (0, 0)) := old1 g3 (by simp)
      have R3 := old0 (gb_trans (World.grownBy_alloc w2 _ none) g3) R2.out (blk_lt R2.out) (by simp)
      have q0 : w3.cell? ⟨W.heap.size, 0, none⟩ = some (.int .i64 0) := blk_cell R3 0
      have q1 : w3.cell? ⟨W.heap.size, 1, none⟩ = some (.int .i64 0) := blk_cell R3 1
      have f0 := blk_free R3 0
      have f1 := blk_free R3 1
      have d0 : w3.cell? ⟨w2.heap.size, 0, none⟩ = some (.int .i64 s) := blk_cell A3 0
      have d1 : w3.cell? ⟨w2.heap.size, 1, none⟩ = some (.int .i64 m) := blk_cell A3 1
      have G3 := Lib.hid (gb_trans (gb_trans G2.out (World.grownBy_alloc _ _ _)) g3)
      clear g3 A3 R3
      go_wp2
      refine bodyPost_ret (v := .tuple #[.agg #[.int .i64 s, .int .i64 m], .int .i64 0]) (by rw [results_cell_tmp (fn := Tryd.f64) rfl]; go_simp) rfl ⟨rfl, ?_⟩
      exact gb_own (gb_own G3.out (Nat.le_refl _) (gb_set _ _ _ _)) (Nat.le_refl _) (gb_set _ _ _ _)
  · rw [if_neg hc] at hv
    obtain ⟨rfl, rfl, rfl⟩ : a = 0 ∧ b = 0 ∧ c = 6 := by simpa using hv
    obtain ⟨x, hx⟩ : ∃ x, wordV s m = x := ⟨_, rfl⟩
    simp only [hx] at V hc
    have hxx : ((x : Int) != (w : Int)) = true := by simp; omega
    have V' := Lib.hid V
    clear V hc hv hx
    rcases hn1 with e1 | ⟨e1, e2⟩
    all_goals
      go_enter Tryd.func64, Tryd.ntmps64
      go_wp2_with fail
      refine (P'.out _).mono ?_
      rintro e w' ⟨rfl, rfl⟩
      have hR : (W.alloc (.cells #[.int .i64 0, .int .i64 0] 27)).heap[W.heap.size]? = some (.cells #[.int .i64 0, .int .i64 0] 27 (0, 0)) := blk_at
      have hG := World.grownBy_alloc W (.cells #[.int .i64 0, .int .i64 0] 27) none
      have hz := size_alloc W (.cells #[.int .i64 0, .int .i64 0] 27)
      generalize W.alloc (.cells #[.int .i64 0, .int .i64 0] 27) = w1 at hR hG hz ⊢
      have HR := Lib.hid hR
      have HG := Lib.hid hG
      have HZ := Lib.hid hz
      have HT1 := Lib.hid (HT.out.grown hlt hG)
      have hl1 : 0 < w1.heap.size := by omega
      clear hR hG hz
      go_wp2_with fail
      refine (C'.out _ HT1.out hl1).mono ?_
      rintro e w2 ⟨rfl, g2⟩
      have R2 := Lib.hid ((g2.block _ (blk_lt HR.out) (by simp)).trans HR.out)
      have G2 := Lib.hid (gb_trans HG.out g2)
      have hz2 : W.heap.size + 1 ≤ w2.heap.size := by have := g2.size; have := HZ.out; omega
      clear g2
      go_wp2_with fail
      refine (V'.out _).mono ?_
      rintro e w3 ⟨rfl, g3⟩
      have R3 := old0 (gb_trans (World.grownBy_alloc w2 _ none) g3) R2.out (blk_lt R2.out) (by simp)
      have q0 : w3.cell? ⟨W.heap.size, 0, none⟩ = some (.int .i64 0) := blk_cell R3 0
      have q1 : w3.cell? ⟨W.heap.size, 1, none⟩ = some (.int .i64 0) := blk_cell R3 1
      have f0 := blk_free R3 0
      have f1 := blk_free R3 1
      have G3 := Lib.hid (gb_trans (gb_trans G2.out (World.grownBy_alloc _ _ _)) g3)
      clear g3 R3
      go_wp2
      refine bodyPost_ret (v := .tuple #[.agg #[.int .i64 0, .int .i64 0], .int .i64 6]) (by rw [results_cell_tmp (fn := Tryd.f64) rfl]; go_simp) rfl ⟨rfl, ?_⟩
      exact gb_own (gb_own G3.out (Nat.le_refl _) (gb_set _ _ _ _)) (Nat.le_refl _) (gb_set _ _ _ _)

/-- Find, of a number that may be a mask. -/
theorem find_calls (w n : Nat) (W : World) (hn : n = 16 ∨ n = 32) (h : (w : Int) < pw n) (hlt : 0 < W.heap.size) (hT : Tab W) :
    Calls Tryd.prog 64 #[.int .i64 w, .int .i64 n] W
    fun e w' => e = .returned (.tuple #[.agg #[.int .i64 (findV w n).1, .int .i64 (findV w n).2.1], .int .i64 (findV w n).2.2]) ∧ W.grownBy w' none := by
  have hn2 : w < 2 ^ n := by
    have : (w : Int) < ((2 ^ n : Nat) : Int) := h
    omega
  by_cases h0 : w = 0
  · subst h0
    refine find_core 0 n 0 0 _ _ _ W hn h (by omega) hlt hT (fun u _ _ => count_zero u) ?_
    have e : findV 0 n = (0, 0, 0) := by
      have hr : runs 0 n ≤ 1 ∧ frm 0 n = 0 ∧ cnt 0 n = 0 := by rcases hn with rfl | rfl <;> decide
      unfold findV
      rw [if_neg (by omega), hr.2.1, hr.2.2]
      rfl
    rw [e]
    rfl
  · have hx : w < 4294967296 := by
      obtain ⟨b0, b1⟩ := pw_le (show n ≤ 32 by omega)
      omega
    refine find_core w n (Lib.ctz 32 w) (popN w) _ _ _ W hn h (Nat.le_of_lt (tz_lt w hx h0)) hlt hT (fun u t l => count_calls' w u hx h0 t l) ?_
    unfold findV
    by_cases hr : 1 < runs w n
    · rw [if_pos hr, if_neg (word_gap h0 hr)]
    · obtain ⟨a, b, c⟩ := word_run (show n ≤ 32 by omega) h0 hn2 (by omega)
      rw [if_neg hr, if_pos a, b, c]

end Go.Proofs.YtikjfmpdfeaooaaDoor.Ma

/- Layer 9: the code's masks, Common, walked. -/
namespace Go.Proofs.YtikjfmpdfeaooaaDoor.Ma
open Go.ChangeShapes Go.WideShapes Go.ChangeAt Go.RowKit
open Go.Proofs.YtikjfmpdfeaooaaDoor.Le Go.Proofs.YtikjfmpdfeaooaaDoor.Sc
set_option linter.unusedVariables false

/-- Eight numbers, as a value: a set's places. -/
def set8 (s0 n0 s1 n1 s2 n2 s3 n3 : Int) : Array Value := #[.int .i64 s0, .int .i64 n0, .int .i64 s1, .int .i64 n1, .int .i64 s2, .int .i64 n2, .int .i64 s3, .int .i64 n3]

set_option maxRecDepth 100000 in
theorem common_16 (W : World) :
    Calls Tryd.prog 52 #[.int .i64 16] W
    fun e w' => e = .returned (.tuple #[.agg (set8 10 5 5 5 0 5 0 0), .bool true]) ∧ W.grownBy w' none := by
  unfold set8
  go_enter Tryd.func52, Tryd.ntmps52
  go_wp2
  refine bodyPost_ret (v := .tuple #[.agg #[.int .i64 10, .int .i64 5, .int .i64 5, .int .i64 5, .int .i64 0, .int .i64 5, .int .i64 0, .int .i64 0], .bool true]) (by rw [results_cell_tmp (fn := Tryd.f52) rfl]; go_simp) rfl ⟨rfl, ?_⟩
  exact World.grownBy_alloc _ _ _

set_option maxRecDepth 100000 in
theorem common_32 (W : World) :
    Calls Tryd.prog 52 #[.int .i64 32] W
    fun e w' => e = .returned (.tuple #[.agg (set8 16 8 8 8 0 8 0 0), .bool true]) ∧ W.grownBy w' none := by
  unfold set8
  go_enter Tryd.func52, Tryd.ntmps52
  go_wp2
  refine bodyPost_ret (v := .tuple #[.agg #[.int .i64 16, .int .i64 8, .int .i64 8, .int .i64 8, .int .i64 0, .int .i64 8, .int .i64 0, .int .i64 0], .bool true]) (by rw [results_cell_tmp (fn := Tryd.f52) rfl]; go_simp) rfl ⟨rfl, ?_⟩
  exact World.grownBy_alloc _ _ _

set_option maxRecDepth 100000 in
theorem common_no (b : Int) (W : World) (h1 : b ≠ 16) (h2 : b ≠ 32) :
    Calls Tryd.prog 52 #[.int .i64 b] W
    fun e w' => e = .returned (.tuple #[.agg (set8 0 0 0 0 0 0 0 0), .bool false]) ∧ W.grownBy w' none := by
  have e1 : (b == 16) = false := by simpa using h1
  have e2 : (b == 32) = false := by simpa using h2
  unfold set8
  go_enter Tryd.func52, Tryd.ntmps52
  go_wp2
  refine bodyPost_ret (v := .tuple #[.agg #[.int .i64 0, .int .i64 0, .int .i64 0, .int .i64 0, .int .i64 0, .int .i64 0, .int .i64 0, .int .i64 0], .bool false]) (by rw [results_cell_tmp (fn := Tryd.f52) rfl]; go_simp) rfl ⟨rfl, ?_⟩
  exact World.grownBy_alloc _ _ _

end Go.Proofs.YtikjfmpdfeaooaaDoor.Ma
