/- Texts of one kind, one behind the other: Rim1, Rim2, Rim3, Rim4. -/
import Derived.Laws.AppendOwn
import Derived.Laws.BytesString
import Derived.WalkLawsBesides
import Derived.Test.YtcfdippcobkbaaaGreatG14
/- Images: their bytes in memory; what is right; which are the same. -/
namespace Go.Proofs.YtcfdippcobkbaaaGreat.Ra
open Go.ChangeShapes Go.WideShapes Go.ChangeAt Go.RowKit
open Go.Proofs.YtcfdippcobkbaaaGreat.Le Go.Proofs.YtcfdippcobkbaaaGreat.Bu Go.Proofs.YtcfdippcobkbaaaGreat.Nu
set_option linter.unusedVariables false

/-- The bytes S lie in a slice that begins at a. -/
def Bx (a : Option Addr) (S : ByteArray) (w : World) : Prop := S.size = 0 ∨ ∃ b off, a = some ⟨b, off, none⟩ ∧ Lib.Bytes w b off S
theorem Bx.grown {a : Option Addr} {S : ByteArray} {w w' : World} (h : Bx a S w) (k : w.grownBy w' none) : Bx a S w' := by
  rcases h with h | ⟨b, off, h1, h2⟩
  · exact .inl h
  · exact .inr ⟨b, off, h1, fun i hi => k.cell (h2 i hi) (by simp)⟩

theorem empty_of {S : ByteArray} (h : S.size = 0) : S = ByteArray.empty := by
  apply ByteArray.ext
  apply Array.toList_inj.1
  have : S.data.toList.length = 0 := by simpa using h
  rw [List.eq_nil_of_length_eq_zero this]
  rfl

theorem conv_zero (w : World) (p : Option Addr) (c : Nat) : (convert 30 9 (.slice p 0 c)).run Tryz.prog w = .ok (.string ByteArray.empty) w := by
  rw [run_convert_bytes_string w 30 9 5 _ 0 c und8 (by kernel_rfl) (by kernel_rfl)]
  cases p <;> simp [Conv.bytesToString, loadCells]
  all_goals rfl

theorem conv_bx {a : Option Addr} {S : ByteArray} {w : World} (h : Bx a S w) (c : Nat) : (convert 30 9 (.slice a S.size c)).run Tryz.prog w = .ok (.string S) w := by
  rcases h with h | ⟨b, off, rfl, h2⟩
  · rw [h, empty_of h]
    exact conv_zero w a c
  · exact Lib.run_convert_whole (P := Tryz.prog) w 30 5 9 und8 (by kernel_rfl) (by kernel_rfl) b off S h2 c

theorem eq_calls (a1 a2 : Option Addr) (c1 c2 : Nat) (S1 S2 : ByteArray) (w : World) (h1 : Bx a1 S1 w) (h2 : Bx a2 S2 w) :
    Calls Tryz.prog 52 #[.slice a1 S1.size c1, .slice a2 S2.size c2] w fun e w' => e = .returned (.bool (S1.toList == S2.toList)) ∧ w = w' := by
  have k1 := conv_bx h1 c1
  have k2 := conv_bx h2 c2
  obtain ⟨n1, hn1⟩ : ∃ n, S1.size = n := ⟨_, rfl⟩
  obtain ⟨n2, hn2⟩ : ∃ n, S2.size = n := ⟨_, rfl⟩
  rw [hn1] at k1 ⊢
  rw [hn2] at k2 ⊢
  clear h1 h2 hn1 hn2
  go_enter Tryz.func52, Tryz.ntmps52
  go_wp2
  go_ret
  exact ⟨rfl, rfl⟩

theorem bys_len (S : ByteArray) : (bys S).toList.length = S.size := by
  have := bys_size S
  simpa using this
theorem bys_one (S : ByteArray) : ∀ u ∈ (bys S).toList, u.oneCell' = true := by
  intro u hu
  simp only [bys, Lib.byteCells, List.mem_map] at hu
  obtain ⟨x, _, rfl⟩ := hu
  rfl

end Go.Proofs.YtcfdippcobkbaaaGreat.Ra

/- Images: Right, Same and Clone, of the code and of the document. -/
namespace Go.Proofs.YtcfdippcobkbaaaGreat.Ra
open Go.ChangeShapes Go.WideShapes Go.ChangeAt Go.RowKit
open Go.Proofs.YtcfdippcobkbaaaGreat.Le Go.Proofs.YtcfdippcobkbaaaGreat.Bu Go.Proofs.YtcfdippcobkbaaaGreat.Nu
set_option linter.unusedVariables false

/-- Is an image right? -/
def rightB (X Y : Int) (n : Nat) : Bool := decide (1 ≤ X) && decide (X ≤ 16384) && decide (1 ≤ Y) && decide (Y ≤ 16384) && decide ((n : Int) = 4 * X * Y)
theorem rightB_bad {X Y : Int} (n : Nat) (h : badS X Y) : rightB X Y n = false := by
  unfold badS at h
  simp only [rightB, Bool.and_eq_false_iff, decide_eq_false_iff_not]
  omega
theorem rightB_ne {X Y : Int} {n : Nat} (h : (n : Int) ≠ 4 * X * Y) : rightB X Y n = false := by
  simp only [rightB, Bool.and_eq_false_iff, decide_eq_false_iff_not]
  exact .inr h
theorem rightB_yes {X Y : Int} {n : Nat} (h : ¬ badS X Y) (e : (n : Int) = 4 * X * Y) : rightB X Y n = true := by
  unfold badS at h
  simp only [rightB, Bool.and_eq_true, decide_eq_true_eq]
  exact ⟨⟨⟨⟨by omega, by omega⟩, by omega⟩, by omega⟩, e⟩

set_option maxRecDepth 100000 in
theorem right_calls (X Y : Int) (a : Option Addr) (n c : Nat) (w : World) (hn : n ≤ 9223372036854775807) :
    Calls Tryz.prog 66 #[.agg #[.int .i64 X, .int .i64 Y, .slice a n c]] w fun e w' => e = .returned (.bool (rightB X Y n)) ∧ w.grownBy w' none := by
  by_cases h : badS X Y
  · rw [rightB_bad n h]
    have K := Lib.hid (fun w => size_no X Y w h)
    clear h
    go_enter Tryz.func66, Tryz.ntmps66
    go_wp2_with fail
    refine (K.out _).mono ?_
    rintro e w' ⟨rfl, rfl⟩
    go_wp2
    go_ret
    exact ⟨rfl, World.grownBy_alloc _ _ _⟩
  · have h' := h
    unfold badS at h'
    obtain ⟨i, rfl⟩ : ∃ i : Nat, X = i := ⟨X.toNat, by omega⟩
    obtain ⟨j, rfl⟩ : ∃ j : Nat, Y = j := ⟨Y.toNat, by omega⟩
    have hmul : 4 * (i : Int) * (j : Int) = ((4 * (i * j) : Nat) : Int) := by rw [Int.natCast_mul, Int.natCast_mul, ← Int.mul_assoc]; rfl
    have K := Lib.hid (fun w => size_yes i j w (by omega) (by omega) (by omega) (by omega))
    have hle : i * j ≤ 16384 * 16384 := Nat.mul_le_mul (by omega) (by omega)
    obtain ⟨m, hm⟩ : ∃ m, 4 * (i * j) = m := ⟨_, rfl⟩
    have m1 : m ≤ 1073741824 := by omega
    rw [hm] at K hmul
    by_cases e : n = m
    · rw [rightB_yes h (by rw [hmul, e])]
      subst e
      clear h h' hmul hm hle
      go_enter Tryz.func66, Tryz.ntmps66
      go_wp2_with fail
      refine (K.out _).mono ?_
      rintro e w1 ⟨rfl, g1⟩
      have b2 : w1.cell? ⟨w.heap.size, 2, none⟩ = some (.slice a n c) := g1.cell (blk_cell (blk_at (o := .cells #[.int .i64 (i : Int), .int .i64 (j : Int), .slice a n c] 32)) 2) (by simp)
      have G1 := Lib.hid (gb_trans (World.grownBy_alloc _ _ _) g1)
      clear g1
      go_wp2
      go_ret
      exact ⟨rfl, G1.out⟩
    · rw [rightB_ne (by rw [hmul]; omega)]
      have e1 : ((n : Int) == (m : Int)) = false := by rw [beq_eq_false_iff_ne]; omega
      clear h h' hmul hm hle
      go_enter Tryz.func66, Tryz.ntmps66
      go_wp2_with fail
      refine (K.out _).mono ?_
      rintro e w1 ⟨rfl, g1⟩
      have b2 : w1.cell? ⟨w.heap.size, 2, none⟩ = some (.slice a n c) := g1.cell (blk_cell (blk_at (o := .cells #[.int .i64 (i : Int), .int .i64 (j : Int), .slice a n c] 32)) 2) (by simp)
      have G1 := Lib.hid (gb_trans (World.grownBy_alloc _ _ _) g1)
      clear g1
      go_wp2
      go_ret
      exact ⟨rfl, G1.out⟩

/-- Are two images the same? -/
def sameB (X Y : Int) (S : ByteArray) (X' Y' : Int) (S' : ByteArray) : Bool := decide (X = X') && decide (Y = Y') && (S.toList == S'.toList)
theorem sameB_self (X Y : Int) (S : ByteArray) : sameB X Y S X Y S = true := by simp [sameB]

set_option maxRecDepth 100000 in
theorem same_calls' (X Y X' Y' : Int) (a a' : Option Addr) (c c' : Nat) (S S' : ByteArray) (w : World) (h1 : Bx a S w) (h2 : Bx a' S' w) :
    Calls Tryz.prog 25 #[.agg #[.int .i64 X, .int .i64 Y, .slice a S.size c], .agg #[.int .i64 X', .int .i64 Y', .slice a' S'.size c']] w fun e w' => e = .returned (.bool (sameB X Y S X' Y' S')) ∧ w.grownBy w' none := by
  have K := Lib.hid (fun w h1 h2 => eq_calls a a' c c' S S' w h1 h2)
  have H1 := Lib.hid h1
  have H2 := Lib.hid h2
  obtain ⟨t, ht⟩ : ∃ t, (S.toList == S'.toList) = t := ⟨_, rfl⟩
  have hb : sameB X Y S X' Y' S' = (decide (X = X') && decide (Y = Y') && t) := by rw [← ht]; rfl
  rw [hb]
  simp only [ht] at K
  obtain ⟨n1, hn1⟩ : ∃ n, S.size = n := ⟨_, rfl⟩
  obtain ⟨n2, hn2⟩ : ∃ n, S'.size = n := ⟨_, rfl⟩
  simp only [hn1, hn2] at K ⊢
  clear h1 h2 ht hb hn1 hn2
  by_cases e1 : X = X'
  · subst e1
    by_cases e2 : Y = Y'
    · subst e2
      go_enter Tryz.func25, Tryz.ntmps25
      go_wp2_with fail
      refine (K.out _ (H1.out.grown (gb_trans (World.grownBy_alloc _ _ _) (World.grownBy_alloc _ _ _))) (H2.out.grown (gb_trans (World.grownBy_alloc _ _ _) (World.grownBy_alloc _ _ _)))).mono ?_
      rintro e w' ⟨rfl, rfl⟩
      go_wp2
      go_ret
      exact ⟨by simp, gb_trans (World.grownBy_alloc _ _ _) (World.grownBy_alloc _ _ _)⟩
    · rw [show (decide (X = X) && decide (Y = Y') && t) = false from by simp [e2]]
      go_enter Tryz.func25, Tryz.ntmps25
      go_wp2
      go_ret
      exact ⟨rfl, gb_trans (World.grownBy_alloc _ _ _) (World.grownBy_alloc _ _ _)⟩
  · rw [show (decide (X = X') && decide (Y = Y') && t) = false from by simp [e1]]
    go_enter Tryz.func25, Tryz.ntmps25
    go_wp2
    go_ret
    exact ⟨rfl, gb_trans (World.grownBy_alloc _ _ _) (World.grownBy_alloc _ _ _)⟩

set_option maxRecDepth 100000 in
theorem rsame_calls (X Y X' Y' : Int) (a a' : Option Addr) (c c' : Nat) (S S' : ByteArray) (w : World) (h1 : Bx a S w) (h2 : Bx a' S' w) :
    Calls Tryz.prog 12 #[.agg #[.int .i64 X, .int .i64 Y, .slice a S.size c], .agg #[.int .i64 X', .int .i64 Y', .slice a' S'.size c']] w fun e w' => e = .returned (.bool (sameB X Y S X' Y' S')) ∧ w.grownBy w' none := by
  have k1 : ∀ (O O' : Obj), (convert 30 9 (.slice a S.size c)).run Tryz.prog ((w.alloc O).alloc O') = .ok (.string S) ((w.alloc O).alloc O') := fun O O' => conv_bx (h1.grown (gb_trans (World.grownBy_alloc _ _ _) (World.grownBy_alloc _ _ _))) c
  have k2 : ∀ (O O' : Obj), (convert 30 9 (.slice a' S'.size c')).run Tryz.prog ((w.alloc O).alloc O') = .ok (.string S') ((w.alloc O).alloc O') := fun O O' => conv_bx (h2.grown (gb_trans (World.grownBy_alloc _ _ _) (World.grownBy_alloc _ _ _))) c'
  obtain ⟨t, ht⟩ : ∃ t, (S.toList == S'.toList) = t := ⟨_, rfl⟩
  have hb : sameB X Y S X' Y' S' = (decide (X = X') && decide (Y = Y') && t) := by rw [← ht]; rfl
  rw [hb]
  obtain ⟨n1, hn1⟩ : ∃ n, S.size = n := ⟨_, rfl⟩
  obtain ⟨n2, hn2⟩ : ∃ n, S'.size = n := ⟨_, rfl⟩
  simp only [hn1] at k1 ⊢
  simp only [hn2] at k2 ⊢
  have HT := Lib.hid ht
  clear h1 h2 hb hn1 hn2 ht
  by_cases e1 : X = X'
  · subst e1
    by_cases e2 : Y = Y'
    · subst e2
      go_enter Tryz.func12, Tryz.ntmps12
      go_wp2
      go_ret
      exact ⟨by rw [HT.out]; simp, gb_trans (World.grownBy_alloc _ _ _) (World.grownBy_alloc _ _ _)⟩
    · rw [show (decide (X = X) && decide (Y = Y') && t) = false from by simp [e2]]
      go_enter Tryz.func12, Tryz.ntmps12
      go_wp2
      go_ret
      exact ⟨rfl, gb_trans (World.grownBy_alloc _ _ _) (World.grownBy_alloc _ _ _)⟩
  · rw [show (decide (X = X') && decide (Y = Y') && t) = false from by simp [e1]]
    go_enter Tryz.func12, Tryz.ntmps12
    go_wp2
    go_ret
    exact ⟨rfl, gb_trans (World.grownBy_alloc _ _ _) (World.grownBy_alloc _ _ _)⟩

end Go.Proofs.YtcfdippcobkbaaaGreat.Ra

/- Images: Clone, and a pixel, of the code. -/
namespace Go.Proofs.YtcfdippcobkbaaaGreat.Ra
open Go.ChangeShapes Go.WideShapes Go.ChangeAt Go.RowKit
open Go.Proofs.YtcfdippcobkbaaaGreat.Le Go.Proofs.YtcfdippcobkbaaaGreat.Bu Go.Proofs.YtcfdippcobkbaaaGreat.Nu
set_option linter.unusedVariables false

theorem Bx.other {a : Option Addr} {S : ByteArray} {w w' : World} {k : Nat} (h : Bx a S w) (g : w.grownBy w' (some k)) (hk : ∀ ad, a = some ad → ad.block ≠ k) : Bx a S w' := by
  rcases h with h | ⟨b, off, h1, h2⟩
  · exact .inl h
  · have := hk _ h1
    exact .inr ⟨b, off, h1, fun i hi => g.cell (h2 i hi) (by simpa using this)⟩

end Go.Proofs.YtcfdippcobkbaaaGreat.Ra

/- Images: a pixel, of the code. -/
namespace Go.Proofs.YtcfdippcobkbaaaGreat.Ra
open Go.ChangeShapes Go.WideShapes Go.ChangeAt Go.RowKit
open Go.Proofs.YtcfdippcobkbaaaGreat.Le Go.Proofs.YtcfdippcobkbaaaGreat.Bu Go.Proofs.YtcfdippcobkbaaaGreat.Nu
set_option linter.unusedVariables false

set_option maxRecDepth 100000 in
theorem ipixel_wrong (X Y x y : Int) (a : Option Addr) (n c : Nat) (w : World) (hn : n ≤ 9223372036854775807) (hr : rightB X Y n = false) :
    Calls Tryz.prog 43 #[.agg #[.int .i64 X, .int .i64 Y, .slice a n c], .int .i64 x, .int .i64 y] w
      fun e w' => e = .returned (.tuple #[.agg #[.int .u8 0, .int .u8 0, .int .u8 0, .int .u8 0], .bool false]) ∧ w.grownBy w' none := by
  have K := fun w => right_calls X Y a n c w hn
  simp only [hr] at K
  have K' := Lib.hid K
  clear K hr
  go_enter Tryz.func43, Tryz.ntmps43
  go_wp2_with fail
  have hres : ((w.alloc (.cells #[.int .i64 X, .int .i64 Y, .slice a n c] 32)).alloc (.cells #[.int .u8 0, .int .u8 0, .int .u8 0, .int .u8 0] 60)).heap[w.heap.size + 1]? = some (.cells #[.int .u8 0, .int .u8 0, .int .u8 0, .int .u8 0] 60 (0, 0)) := by
    rw [← size_alloc w (.cells #[.int .i64 X, .int .i64 Y, .slice a n c] 32)]
    exact blk_at
  have HR := Lib.hid hres
  clear hres
  refine (K'.out _).mono ?_
  rintro e w1 ⟨rfl, g1⟩
  have R2 := (g1.block _ (blk_lt HR.out) (by simp)).trans HR.out
  have r0 : w1.cell? ⟨w.heap.size + 1, 0, none⟩ = some (.int .u8 0) := blk_cell R2 0
  have r1 : w1.cell? ⟨w.heap.size + 1, 1, none⟩ = some (.int .u8 0) := blk_cell R2 1
  have r2 : w1.cell? ⟨w.heap.size + 1, 2, none⟩ = some (.int .u8 0) := blk_cell R2 2
  have r3 : w1.cell? ⟨w.heap.size + 1, 3, none⟩ = some (.int .u8 0) := blk_cell R2 3
  have f0 := blk_free R2 0
  have f1 := blk_free R2 1
  have f2 := blk_free R2 2
  have f3 := blk_free R2 3
  have G1 := Lib.hid (gb_trans (gb_trans (World.grownBy_alloc _ _ _) (World.grownBy_alloc _ _ _)) g1)
  clear g1 R2
  go_wp2
  refine bodyPost_ret (v := .tuple #[.agg #[.int .u8 0, .int .u8 0, .int .u8 0, .int .u8 0], .bool false]) (by rw [results_cell_tmp (fn := Tryz.f43) rfl]; go_simp) rfl ⟨rfl, ?_⟩
  exact gb_new (gb_new (gb_new (gb_new G1.out (by omega) (gb_set _ _ _ _)) (by omega) (gb_set _ _ _ _)) (by omega) (gb_set _ _ _ _)) (by omega) (gb_set _ _ _ _)

set_option maxRecDepth 100000 in
theorem ipixel_no (X Y x y : Int) (a : Option Addr) (n c : Nat) (w : World) (hn : n ≤ 9223372036854775807) (hr : rightB X Y n = true) (hp : badP X Y x y) :
    Calls Tryz.prog 43 #[.agg #[.int .i64 X, .int .i64 Y, .slice a n c], .int .i64 x, .int .i64 y] w
      fun e w' => e = .returned (.tuple #[.agg #[.int .u8 0, .int .u8 0, .int .u8 0, .int .u8 0], .bool false]) ∧ w.grownBy w' none := by
  have K := fun w => right_calls X Y a n c w hn
  simp only [hr] at K
  have K' := Lib.hid K
  have P := Lib.hid (fun w => place_no X Y x y w hp)
  clear K hr hp
  go_enter Tryz.func43, Tryz.ntmps43
  go_wp2_with fail
  have hbox : ((w.alloc (.cells #[.int .i64 X, .int .i64 Y, .slice a n c] 32)).alloc (.cells #[.int .u8 0, .int .u8 0, .int .u8 0, .int .u8 0] 60)).heap[w.heap.size]? = some (.cells #[.int .i64 X, .int .i64 Y, .slice a n c] 32 (0, 0)) := blk_al blk_at _
  have hres : ((w.alloc (.cells #[.int .i64 X, .int .i64 Y, .slice a n c] 32)).alloc (.cells #[.int .u8 0, .int .u8 0, .int .u8 0, .int .u8 0] 60)).heap[w.heap.size + 1]? = some (.cells #[.int .u8 0, .int .u8 0, .int .u8 0, .int .u8 0] 60 (0, 0)) := by
    rw [← size_alloc w (.cells #[.int .i64 X, .int .i64 Y, .slice a n c] 32)]
    exact blk_at
  have HR := Lib.hid hres
  have HB := Lib.hid hbox
  clear hres hbox
  refine (K'.out _).mono ?_
  rintro e w1 ⟨rfl, g1⟩
  have R2 := (g1.block _ (blk_lt HR.out) (by simp)).trans HR.out
  have B2 := (g1.block _ (blk_lt HB.out) (by simp)).trans HB.out
  have b0 : w1.cell? ⟨w.heap.size, 0, none⟩ = some (.int .i64 X) := blk_cell B2 0
  have b1 : w1.cell? ⟨w.heap.size, 1, none⟩ = some (.int .i64 Y) := blk_cell B2 1
  have r0 : w1.cell? ⟨w.heap.size + 1, 0, none⟩ = some (.int .u8 0) := blk_cell R2 0
  have r1 : w1.cell? ⟨w.heap.size + 1, 1, none⟩ = some (.int .u8 0) := blk_cell R2 1
  have r2 : w1.cell? ⟨w.heap.size + 1, 2, none⟩ = some (.int .u8 0) := blk_cell R2 2
  have r3 : w1.cell? ⟨w.heap.size + 1, 3, none⟩ = some (.int .u8 0) := blk_cell R2 3
  have f0 := blk_free R2 0
  have f1 := blk_free R2 1
  have f2 := blk_free R2 2
  have f3 := blk_free R2 3
  have G1 := Lib.hid (gb_trans (gb_trans (World.grownBy_alloc _ _ _) (World.grownBy_alloc _ _ _)) g1)
  clear g1 R2 B2
  go_wp2_with fail
  refine (P.out _).mono ?_
  rintro e w' ⟨rfl, rfl⟩
  go_wp2
  refine bodyPost_ret (v := .tuple #[.agg #[.int .u8 0, .int .u8 0, .int .u8 0, .int .u8 0], .bool false]) (by rw [results_cell_tmp (fn := Tryz.f43) rfl]; go_simp) rfl ⟨rfl, ?_⟩
  exact gb_new (gb_new (gb_new (gb_new G1.out (by omega) (gb_set _ _ _ _)) (by omega) (gb_set _ _ _ _)) (by omega) (gb_set _ _ _ _)) (by omega) (gb_set _ _ _ _)

theorem bt_at (S : ByteArray) (j : Nat) (h : j < S.size) : ((S[j].toNat : Nat) : Int) = bt S j := by
  unfold bt
  rw [List.getD_eq_getElem?_getD, Go.Proofs.byte_at S j h]
  rfl

set_option maxRecDepth 100000 in
set_option maxHeartbeats 1000000 in
theorem ipixel_yes (X Y x y p : Nat) (b off c : Nat) (S : ByteArray) (w : World) (hx : x < X) (hy : y < Y) (hX : X ≤ 16384) (hY : Y ≤ 16384) (hp : y * X + x = p) (hs : S.size ≤ 2000) (hsz : S.size = 4 * (X * Y)) (hc : S.size ≤ c) (hcm : c ≤ 9223372036854775807) (hB : Lib.Bytes w b off S) (hr : rightB X Y S.size = true) :
    Calls Tryz.prog 43 #[.agg #[.int .i64 X, .int .i64 Y, .slice (some ⟨b, off, none⟩) S.size c], .int .i64 x, .int .i64 y] w
      fun e w' => e = .returned (.tuple #[.agg #[.int .u8 (bt S (4 * p)), .int .u8 (bt S (4 * p + 1)), .int .u8 (bt S (4 * p + 2)), .int .u8 (bt S (4 * p + 3))], .bool true]) ∧ w.grownBy w' none := by
  have K := fun w => right_calls X Y (some ⟨b, off, none⟩) S.size c w (by omega)
  simp only [hr] at K
  have P := fun w => place_yes X Y x y p w hx hy hX hY hp
  have hle : 4 * p + 4 ≤ S.size := by rw [hsz]; exact p_lt hx hy hp
  have q0 := (hB (4 * p) (by omega)).trans (by rw [bt_at])
  have q1 := (hB (4 * p + 1) (by omega)).trans (by rw [bt_at])
  have q2 := (hB (4 * p + 2) (by omega)).trans (by rw [bt_at])
  have q3 := (hB (4 * p + 3) (by omega)).trans (by rw [bt_at])
  obtain ⟨n, hn⟩ : ∃ n, S.size = n := ⟨_, rfl⟩
  rw [hn] at hle hs hc ⊢
  simp only [hn] at K
  obtain ⟨i, hi⟩ : ∃ i, 4 * p = i := ⟨_, rfl⟩
  simp only [hi] at P q0 q1 q2 q3 hle ⊢
  obtain ⟨x0, e0⟩ : ∃ z, bt S i = z := ⟨_, rfl⟩
  obtain ⟨x1, e1⟩ : ∃ z, bt S (i + 1) = z := ⟨_, rfl⟩
  obtain ⟨x2, e2⟩ : ∃ z, bt S (i + 2) = z := ⟨_, rfl⟩
  obtain ⟨x3, e3⟩ : ∃ z, bt S (i + 3) = z := ⟨_, rfl⟩
  rw [e0] at q0 ⊢
  rw [e1] at q1 ⊢
  rw [e2] at q2 ⊢
  rw [e3] at q3 ⊢
  have Q0 := Lib.hid q0
  have Q1 := Lib.hid q1
  have Q2 := Lib.hid q2
  have Q3 := Lib.hid q3
  have K' := Lib.hid K
  have P' := Lib.hid P
  have hic : i + 4 ≤ c := by omega
  clear K P hr hp hB hsz hn hi e0 e1 e2 e3 q0 q1 q2 q3
  go_enter Tryz.func43, Tryz.ntmps43
  go_wp2_with fail
  have hbox : ((w.alloc (.cells #[.int .i64 (X : Int), .int .i64 (Y : Int), .slice (some ⟨b, off, none⟩) n c] 32)).alloc (.cells #[.int .u8 0, .int .u8 0, .int .u8 0, .int .u8 0] 60)).heap[w.heap.size]? = some (.cells #[.int .i64 (X : Int), .int .i64 (Y : Int), .slice (some ⟨b, off, none⟩) n c] 32 (0, 0)) := blk_al blk_at _
  have hres : ((w.alloc (.cells #[.int .i64 (X : Int), .int .i64 (Y : Int), .slice (some ⟨b, off, none⟩) n c] 32)).alloc (.cells #[.int .u8 0, .int .u8 0, .int .u8 0, .int .u8 0] 60)).heap[w.heap.size + 1]? = some (.cells #[.int .u8 0, .int .u8 0, .int .u8 0, .int .u8 0] 60 (0, 0)) := by
    rw [← size_alloc w (.cells #[.int .i64 (X : Int), .int .i64 (Y : Int), .slice (some ⟨b, off, none⟩) n c] 32)]
    exact blk_at
  have HR := Lib.hid hres
  have HB := Lib.hid hbox
  clear hres hbox
  refine (K'.out _).mono ?_
  rintro e w1 ⟨rfl, g1⟩
  have R2 := (g1.block _ (blk_lt HR.out) (by simp)).trans HR.out
  have B2 := (g1.block _ (blk_lt HB.out) (by simp)).trans HB.out
  have b0 : w1.cell? ⟨w.heap.size, 0, none⟩ = some (.int .i64 X) := blk_cell B2 0
  have b1 : w1.cell? ⟨w.heap.size, 1, none⟩ = some (.int .i64 Y) := blk_cell B2 1
  have b2 : w1.cell? ⟨w.heap.size, 2, none⟩ = some (.slice (some ⟨b, off, none⟩) n c) := blk_cell B2 2
  have r0 : w1.cell? ⟨w.heap.size + 1, 0, none⟩ = some (.int .u8 0) := blk_cell R2 0
  have r1 : w1.cell? ⟨w.heap.size + 1, 1, none⟩ = some (.int .u8 0) := blk_cell R2 1
  have r2 : w1.cell? ⟨w.heap.size + 1, 2, none⟩ = some (.int .u8 0) := blk_cell R2 2
  have r3 : w1.cell? ⟨w.heap.size + 1, 3, none⟩ = some (.int .u8 0) := blk_cell R2 3
  have f0 := blk_free R2 0
  have f1 := blk_free R2 1
  have f2 := blk_free R2 2
  have f3 := blk_free R2 3
  have G1 := Lib.hid (gb_trans (gb_trans (World.grownBy_alloc _ _ _) (World.grownBy_alloc _ _ _)) g1)
  have q0 := G1.out.cell Q0.out (by simp)
  have q1 := G1.out.cell Q1.out (by simp)
  have q2 := G1.out.cell Q2.out (by simp)
  have q3 := G1.out.cell Q3.out (by simp)
  rw [← Nat.add_assoc] at q1 q2 q3
  clear g1 R2 B2
  go_wp2_with fail
  refine (P'.out _).mono ?_
  rintro e w' ⟨rfl, rfl⟩
  go_wp2_with fail
  go_region
  all_goals
    go_wp2
    refine bodyPost_ret (v := .tuple #[.agg #[.int .u8 x0, .int .u8 x1, .int .u8 x2, .int .u8 x3], .bool true]) (by rw [results_cell_tmp (fn := Tryz.f43) rfl]; go_simp) rfl ⟨rfl, ?_⟩
    exact gb_trans (gb_new (gb_new (gb_new (gb_new G1.out (by omega) (gb_set _ _ _ _)) (by omega) (gb_set _ _ _ _)) (by omega) (gb_set _ _ _ _)) (by omega) (gb_set _ _ _ _)) (gb_drew _ _)

end Go.Proofs.YtcfdippcobkbaaaGreat.Ra
