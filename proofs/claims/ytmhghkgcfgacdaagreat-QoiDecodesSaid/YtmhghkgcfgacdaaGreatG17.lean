/- Texts of one kind, one behind the other: Rim1, Rim2, Rim3. -/
import Derived.Laws.AppendOwn
import Derived.Laws.BytesString
import Derived.WalkLawsBesides
import Derived.Test.YtmhghkgcfgacdaaGreatG15
/- Images: their bytes in memory; what is right; which are the same. -/
namespace Go.Proofs.YtmhghkgcfgacdaaGreat.Ra
open Go.ChangeShapes Go.WideShapes Go.ChangeAt Go.RowKit
open Go.Proofs.YtmhghkgcfgacdaaGreat.Le Go.Proofs.YtmhghkgcfgacdaaGreat.Bu Go.Proofs.YtmhghkgcfgacdaaGreat.Nu
set_option linter.unusedVariables false

/-- The bytes S lie in a slice that begins at a. -/
def Bx (a : Option Addr) (S : ByteArray) (w : World) : Prop := S.size = 0 ∨ ∃ b off, a = some ⟨b, off, none⟩ ∧ Lib.Bytes w b off S
theorem Bx.grown {a : Option Addr} {S : ByteArray} {w w' : World} (h : Bx a S w) (k : w.grownBy w' none) : Bx a S w' := by
  rcases h with h | ⟨b, off, h1, h2⟩
  · exact .inl h
  · exact .inr ⟨b, off, h1, fun i hi => k.cell (h2 i hi) (by simp)⟩

theorem empty_of {S : ByteArray} (h : S.size = 0) : S = ByteArray.empty := by
  apply ByteArray.ext
  apply Array.toList_inj.1
  have : S.data.toList.length = 0 := by simpa using h
  rw [List.eq_nil_of_length_eq_zero this]
  rfl

theorem conv_zero (w : World) (p : Option Addr) (c : Nat) : (convert 25 9 (.slice p 0 c)).run Tryz.prog w = .ok (.string ByteArray.empty) w := by
  rw [run_convert_bytes_string w 25 9 5 _ 0 c und8 (by kernel_rfl) (by kernel_rfl)]
  cases p <;> simp [Conv.bytesToString, loadCells]
  all_goals rfl

theorem conv_bx {a : Option Addr} {S : ByteArray} {w : World} (h : Bx a S w) (c : Nat) : (convert 25 9 (.slice a S.size c)).run Tryz.prog w = .ok (.string S) w := by
  rcases h with h | ⟨b, off, rfl, h2⟩
  · rw [h, empty_of h]
    exact conv_zero w a c
  · exact Lib.run_convert_whole (P := Tryz.prog) w 25 5 9 und8 (by kernel_rfl) (by kernel_rfl) b off S h2 c

theorem bys_len (S : ByteArray) : (bys S).toList.length = S.size := by
  have := bys_size S
  simpa using this
theorem bys_one (S : ByteArray) : ∀ u ∈ (bys S).toList, u.oneCell' = true := by
  intro u hu
  simp only [bys, Lib.byteCells, List.mem_map] at hu
  obtain ⟨x, _, rfl⟩ := hu
  rfl

end Go.Proofs.YtmhghkgcfgacdaaGreat.Ra

/- Images: Right, Same and Clone, of the code and of the document. -/
namespace Go.Proofs.YtmhghkgcfgacdaaGreat.Ra
open Go.ChangeShapes Go.WideShapes Go.ChangeAt Go.RowKit
open Go.Proofs.YtmhghkgcfgacdaaGreat.Le Go.Proofs.YtmhghkgcfgacdaaGreat.Bu Go.Proofs.YtmhghkgcfgacdaaGreat.Nu
set_option linter.unusedVariables false

/-- Is an image right? -/
def rightB (X Y : Int) (n : Nat) : Bool := decide (1 ≤ X) && decide (X ≤ 16384) && decide (1 ≤ Y) && decide (Y ≤ 16384) && decide ((n : Int) = 4 * X * Y)
theorem rightB_bad {X Y : Int} (n : Nat) (h : badS X Y) : rightB X Y n = false := by
  unfold badS at h
  simp only [rightB, Bool.and_eq_false_iff, decide_eq_false_iff_not]
  omega
theorem rightB_ne {X Y : Int} {n : Nat} (h : (n : Int) ≠ 4 * X * Y) : rightB X Y n = false := by
  simp only [rightB, Bool.and_eq_false_iff, decide_eq_false_iff_not]
  exact .inr h
theorem rightB_yes {X Y : Int} {n : Nat} (h : ¬ badS X Y) (e : (n : Int) = 4 * X * Y) : rightB X Y n = true := by
  unfold badS at h
  simp only [rightB, Bool.and_eq_true, decide_eq_true_eq]
  exact ⟨⟨⟨⟨by omega, by omega⟩, by omega⟩, by omega⟩, e⟩

set_option maxRecDepth 100000 in
theorem right_calls (X Y : Int) (a : Option Addr) (n c : Nat) (w : World) (hn : n ≤ 9223372036854775807) :
    Calls Tryz.prog 36 #[.agg #[.int .i64 X, .int .i64 Y, .slice a n c]] w fun e w' => e = .returned (.bool (rightB X Y n)) ∧ w.grownBy w' none := by
  by_cases h : badS X Y
  · rw [rightB_bad n h]
    have K := Lib.hid (fun w => size_no X Y w h)
    clear h
    go_enter Tryz.func36, Tryz.ntmps36
    go_wp2_with fail
    refine (K.out _).mono ?_
    rintro e w' ⟨rfl, rfl⟩
    go_wp2
    go_ret
    exact ⟨rfl, World.grownBy_alloc _ _ _⟩
  · have h' := h
    unfold badS at h'
    obtain ⟨i, rfl⟩ : ∃ i : Nat, X = i := ⟨X.toNat, by omega⟩
    obtain ⟨j, rfl⟩ : ∃ j : Nat, Y = j := ⟨Y.toNat, by omega⟩
    have hmul : 4 * (i : Int) * (j : Int) = ((4 * (i * j) : Nat) : Int) := by rw [Int.natCast_mul, Int.natCast_mul, ← Int.mul_assoc]; rfl
    have K := Lib.hid (fun w => size_yes i j w (by omega) (by omega) (by omega) (by omega))
    have hle : i * j ≤ 16384 * 16384 := Nat.mul_le_mul (by omega) (by omega)
    obtain ⟨m, hm⟩ : ∃ m, 4 * (i * j) = m := ⟨_, rfl⟩
    have m1 : m ≤ 1073741824 := by omega
    rw [hm] at K hmul
    by_cases e : n = m
    · rw [rightB_yes h (by rw [hmul, e])]
      subst e
      clear h h' hmul hm hle
      go_enter Tryz.func36, Tryz.ntmps36
      go_wp2_with fail
      refine (K.out _).mono ?_
      rintro e w1 ⟨rfl, g1⟩
      have b2 : w1.cell? ⟨w.heap.size, 2, none⟩ = some (.slice a n c) := g1.cell (blk_cell (blk_at (o := .cells #[.int .i64 (i : Int), .int .i64 (j : Int), .slice a n c] 27)) 2) (by simp)
      have G1 := Lib.hid (gb_trans (World.grownBy_alloc _ _ _) g1)
      clear g1
      go_wp2
      go_ret
      exact ⟨rfl, G1.out⟩
    · rw [rightB_ne (by rw [hmul]; omega)]
      have e1 : ((n : Int) == (m : Int)) = false := by rw [beq_eq_false_iff_ne]; omega
      clear h h' hmul hm hle
      go_enter Tryz.func36, Tryz.ntmps36
      go_wp2_with fail
      refine (K.out _).mono ?_
      rintro e w1 ⟨rfl, g1⟩
      have b2 : w1.cell? ⟨w.heap.size, 2, none⟩ = some (.slice a n c) := g1.cell (blk_cell (blk_at (o := .cells #[.int .i64 (i : Int), .int .i64 (j : Int), .slice a n c] 27)) 2) (by simp)
      have G1 := Lib.hid (gb_trans (World.grownBy_alloc _ _ _) g1)
      clear g1
      go_wp2
      go_ret
      exact ⟨rfl, G1.out⟩

set_option maxRecDepth 100000 in
theorem rright_calls (X Y : Int) (a : Option Addr) (n c : Nat) (w : World) (hn : n ≤ 9223372036854775807) :
    Calls Tryz.prog 17 #[.agg #[.int .i64 X, .int .i64 Y, .slice a n c]] w fun e w' => e = .returned (.bool (rightB X Y n)) ∧ w.grownBy w' none := by
  by_cases h1 : X < 1
  · rw [rightB_bad n (.inl h1)]
    go_enter Tryz.func17, Tryz.ntmps17
    go_wp2
    go_ret
    exact ⟨rfl, World.grownBy_alloc _ _ _⟩
  by_cases h2 : 16384 < X
  · rw [rightB_bad n (.inr (.inl h2))]
    have h1' : 1 ≤ X := by omega
    go_enter Tryz.func17, Tryz.ntmps17
    go_wp2
    go_ret
    exact ⟨rfl, World.grownBy_alloc _ _ _⟩
  by_cases h3 : Y < 1
  · rw [rightB_bad n (.inr (.inr (.inl h3)))]
    have h1' : 1 ≤ X := by omega
    have h2' : X ≤ 16384 := by omega
    clear h1 h2
    go_enter Tryz.func17, Tryz.ntmps17
    go_wp2
    go_ret
    exact ⟨rfl, World.grownBy_alloc _ _ _⟩
  by_cases h4 : 16384 < Y
  · rw [rightB_bad n (.inr (.inr (.inr h4)))]
    have h1' : 1 ≤ X := by omega
    have h2' : X ≤ 16384 := by omega
    have h3' : 1 ≤ Y := by omega
    clear h1 h2 h3
    go_enter Tryz.func17, Tryz.ntmps17
    go_wp2
    go_ret
    exact ⟨rfl, World.grownBy_alloc _ _ _⟩
  have hb : ¬ badS X Y := by unfold badS; omega
  obtain ⟨i, rfl⟩ : ∃ i : Nat, X = i := ⟨X.toNat, by omega⟩
  obtain ⟨j, rfl⟩ : ∃ j : Nat, Y = j := ⟨Y.toNat, by omega⟩
  have hmul : 4 * (i : Int) * (j : Int) = ((4 * (i * j) : Nat) : Int) := by rw [Int.natCast_mul, Int.natCast_mul, ← Int.mul_assoc]; rfl
  have hle : i * j ≤ 16384 * 16384 := Nat.mul_le_mul (by omega) (by omega)
  obtain ⟨m, hm⟩ : ∃ m, 4 * (i * j) = m := ⟨_, rfl⟩
  have m1 : m ≤ 1073741824 := by omega
  rw [hm] at hmul
  have i1 : (1 : Int) ≤ i := by omega
  have i2 : (i : Int) ≤ 16384 := by omega
  have j1 : (1 : Int) ≤ j := by omega
  have j2 : (j : Int) ≤ 16384 := by omega
  by_cases e : n = m
  · rw [rightB_yes hb (by rw [hmul, e])]
    subst e
    clear hb h1 h2 h3 h4 hm hle
    go_enter Tryz.func17, Tryz.ntmps17
    go_wp2
    go_ret
    exact ⟨rfl, World.grownBy_alloc _ _ _⟩
  · rw [rightB_ne (by rw [hmul]; omega)]
    have e1 : ((n : Int) == (m : Int)) = false := by rw [beq_eq_false_iff_ne]; omega
    clear hb h1 h2 h3 h4 hm hle
    go_enter Tryz.func17, Tryz.ntmps17
    go_wp2
    go_ret
    exact ⟨rfl, World.grownBy_alloc _ _ _⟩

/-- Are two images the same? -/
def sameB (X Y : Int) (S : ByteArray) (X' Y' : Int) (S' : ByteArray) : Bool := decide (X = X') && decide (Y = Y') && (S.toList == S'.toList)
theorem sameB_self (X Y : Int) (S : ByteArray) : sameB X Y S X Y S = true := by simp [sameB]

set_option maxRecDepth 100000 in
theorem rsame_calls (X Y X' Y' : Int) (a a' : Option Addr) (c c' : Nat) (S S' : ByteArray) (w : World) (h1 : Bx a S w) (h2 : Bx a' S' w) :
    Calls Tryz.prog 14 #[.agg #[.int .i64 X, .int .i64 Y, .slice a S.size c], .agg #[.int .i64 X', .int .i64 Y', .slice a' S'.size c']] w fun e w' => e = .returned (.bool (sameB X Y S X' Y' S')) ∧ w.grownBy w' none := by
  have k1 : ∀ (O O' : Obj), (convert 25 9 (.slice a S.size c)).run Tryz.prog ((w.alloc O).alloc O') = .ok (.string S) ((w.alloc O).alloc O') := fun O O' => conv_bx (h1.grown (gb_trans (World.grownBy_alloc _ _ _) (World.grownBy_alloc _ _ _))) c
  have k2 : ∀ (O O' : Obj), (convert 25 9 (.slice a' S'.size c')).run Tryz.prog ((w.alloc O).alloc O') = .ok (.string S') ((w.alloc O).alloc O') := fun O O' => conv_bx (h2.grown (gb_trans (World.grownBy_alloc _ _ _) (World.grownBy_alloc _ _ _))) c'
  obtain ⟨t, ht⟩ : ∃ t, (S.toList == S'.toList) = t := ⟨_, rfl⟩
  have hb : sameB X Y S X' Y' S' = (decide (X = X') && decide (Y = Y') && t) := by rw [← ht]; rfl
  rw [hb]
  obtain ⟨n1, hn1⟩ : ∃ n, S.size = n := ⟨_, rfl⟩
  obtain ⟨n2, hn2⟩ : ∃ n, S'.size = n := ⟨_, rfl⟩
  simp only [hn1] at k1 ⊢
  simp only [hn2] at k2 ⊢
  have HT := Lib.hid ht
  clear h1 h2 hb hn1 hn2 ht
  by_cases e1 : X = X'
  · subst e1
    by_cases e2 : Y = Y'
    · subst e2
      go_enter Tryz.func14, Tryz.ntmps14
      go_wp2
      go_ret
      exact ⟨by rw [HT.out]; simp, gb_trans (World.grownBy_alloc _ _ _) (World.grownBy_alloc _ _ _)⟩
    · rw [show (decide (X = X) && decide (Y = Y') && t) = false from by simp [e2]]
      go_enter Tryz.func14, Tryz.ntmps14
      go_wp2
      go_ret
      exact ⟨rfl, gb_trans (World.grownBy_alloc _ _ _) (World.grownBy_alloc _ _ _)⟩
  · rw [show (decide (X = X') && decide (Y = Y') && t) = false from by simp [e1]]
    go_enter Tryz.func14, Tryz.ntmps14
    go_wp2
    go_ret
    exact ⟨rfl, gb_trans (World.grownBy_alloc _ _ _) (World.grownBy_alloc _ _ _)⟩

end Go.Proofs.YtmhghkgcfgacdaaGreat.Ra

/- Images: Clone, and a pixel, of the code. -/
namespace Go.Proofs.YtmhghkgcfgacdaaGreat.Ra
open Go.ChangeShapes Go.WideShapes Go.ChangeAt Go.RowKit
open Go.Proofs.YtmhghkgcfgacdaaGreat.Le Go.Proofs.YtmhghkgcfgacdaaGreat.Bu Go.Proofs.YtmhghkgcfgacdaaGreat.Nu
set_option linter.unusedVariables false

theorem Bx.other {a : Option Addr} {S : ByteArray} {w w' : World} {k : Nat} (h : Bx a S w) (g : w.grownBy w' (some k)) (hk : ∀ ad, a = some ad → ad.block ≠ k) : Bx a S w' := by
  rcases h with h | ⟨b, off, h1, h2⟩
  · exact .inl h
  · have := hk _ h1
    exact .inr ⟨b, off, h1, fun i hi => g.cell (h2 i hi) (by simpa using this)⟩

end Go.Proofs.YtmhghkgcfgacdaaGreat.Ra
