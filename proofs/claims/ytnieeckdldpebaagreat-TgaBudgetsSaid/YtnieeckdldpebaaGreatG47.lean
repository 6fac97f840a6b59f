/- Texts of one kind, one behind the other: Rim1, Rim2. -/
import Derived.Laws.AppendOwn
import Derived.Laws.BytesString
import Derived.WalkLawsBesides
import Derived.Test.YtnieeckdldpebaaGreatG36
/- Images: their bytes in memory; what is right; which are the same. -/
namespace Go.Proofs.YtnieeckdldpebaaGreat.Ra
open Go.ChangeShapes Go.WideShapes Go.ChangeAt Go.RowKit
open Go.Proofs.YtnieeckdldpebaaGreat.Le Go.Proofs.YtnieeckdldpebaaGreat.Bu Go.Proofs.YtnieeckdldpebaaGreat.Nu
set_option linter.unusedVariables false

/-- The bytes S lie in a slice that begins at a. -/
def Bx (a : Option Addr) (S : ByteArray) (w : World) : Prop := S.size = 0 ∨ ∃ b off, a = some ⟨b, off, none⟩ ∧ Lib.Bytes w b off S
theorem Bx.grown {a : Option Addr} {S : ByteArray} {w w' : World} (h : Bx a S w) (k : w.grownBy w' none) : Bx a S w' := by
  rcases h with h | ⟨b, off, h1, h2⟩
  · exact .inl h
  · exact .inr ⟨b, off, h1, fun i hi => k.cell (h2 i hi) (by simp)⟩

theorem empty_of {S : ByteArray} (h : S.size = 0) : S = ByteArray.empty := by
  apply ByteArray.ext
  apply Array.toList_inj.1
  have : S.data.toList.length = 0 := by simpa using h
  rw [List.eq_nil_of_length_eq_zero this]
  rfl

theorem conv_zero (w : World) (p : Option Addr) (c : Nat) : (convert 25 9 (.slice p 0 c)).run Tryz.prog w = .ok (.string ByteArray.empty) w := by
  rw [run_convert_bytes_string w 25 9 5 _ 0 c und8 (by kernel_rfl) (by kernel_rfl)]
  cases p <;> simp [Conv.bytesToString, loadCells]
  all_goals rfl

theorem conv_bx {a : Option Addr} {S : ByteArray} {w : World} (h : Bx a S w) (c : Nat) : (convert 25 9 (.slice a S.size c)).run Tryz.prog w = .ok (.string S) w := by
  rcases h with h | ⟨b, off, rfl, h2⟩
  · rw [h, empty_of h]
    exact conv_zero w a c
  · exact Lib.run_convert_whole (P := Tryz.prog) w 25 5 9 und8 (by kernel_rfl) (by kernel_rfl) b off S h2 c

theorem eq_calls (a1 a2 : Option Addr) (c1 c2 : Nat) (S1 S2 : ByteArray) (w : World) (h1 : Bx a1 S1 w) (h2 : Bx a2 S2 w) :
    Calls Tryz.prog 38 #[.slice a1 S1.size c1, .slice a2 S2.size c2] w fun e w' => e = .returned (.bool (S1.toList == S2.toList)) ∧ w = w' := by
  have k1 := conv_bx h1 c1
  have k2 := conv_bx h2 c2
  obtain ⟨n1, hn1⟩ : ∃ n, S1.size = n := ⟨_, rfl⟩
  obtain ⟨n2, hn2⟩ : ∃ n, S2.size = n := ⟨_, rfl⟩
  rw [hn1] at k1 ⊢
  rw [hn2] at k2 ⊢
  clear h1 h2 hn1 hn2
  go_enter Tryz.func38, Tryz.ntmps38
  go_wp2
  go_ret
  exact ⟨rfl, rfl⟩

end Go.Proofs.YtnieeckdldpebaaGreat.Ra

/- Images: Right, Same and Clone, of the code and of the document. -/
namespace Go.Proofs.YtnieeckdldpebaaGreat.Ra
open Go.ChangeShapes Go.WideShapes Go.ChangeAt Go.RowKit
open Go.Proofs.YtnieeckdldpebaaGreat.Le Go.Proofs.YtnieeckdldpebaaGreat.Bu Go.Proofs.YtnieeckdldpebaaGreat.Nu
set_option linter.unusedVariables false

/-- Are two images the same? -/
def sameB (X Y : Int) (S : ByteArray) (X' Y' : Int) (S' : ByteArray) : Bool := decide (X = X') && decide (Y = Y') && (S.toList == S'.toList)
theorem sameB_self (X Y : Int) (S : ByteArray) : sameB X Y S X Y S = true := by simp [sameB]

set_option maxRecDepth 100000 in
theorem same_calls' (X Y X' Y' : Int) (a a' : Option Addr) (c c' : Nat) (S S' : ByteArray) (w : World) (h1 : Bx a S w) (h2 : Bx a' S' w) :
    Calls Tryz.prog 18 #[.agg #[.int .i64 X, .int .i64 Y, .slice a S.size c], .agg #[.int .i64 X', .int .i64 Y', .slice a' S'.size c']] w fun e w' => e = .returned (.bool (sameB X Y S X' Y' S')) ∧ w.grownBy w' none := by
  have K := Lib.hid (fun w h1 h2 => eq_calls a a' c c' S S' w h1 h2)
  have H1 := Lib.hid h1
  have H2 := Lib.hid h2
  obtain ⟨t, ht⟩ : ∃ t, (S.toList == S'.toList) = t := ⟨_, rfl⟩
  have hb : sameB X Y S X' Y' S' = (decide (X = X') && decide (Y = Y') && t) := by rw [← ht]; rfl
  rw [hb]
  simp only [ht] at K
  obtain ⟨n1, hn1⟩ : ∃ n, S.size = n := ⟨_, rfl⟩
  obtain ⟨n2, hn2⟩ : ∃ n, S'.size = n := ⟨_, rfl⟩
  simp only [hn1, hn2] at K ⊢
  clear h1 h2 ht hb hn1 hn2
  by_cases e1 : X = X'
  · subst e1
    by_cases e2 : Y = Y'
    · subst e2
      go_enter Tryz.func18, Tryz.ntmps18
      go_wp2_with fail
      refine (K.out _ (H1.out.grown (gb_trans (World.grownBy_alloc _ _ _) (World.grownBy_alloc _ _ _))) (H2.out.grown (gb_trans (World.grownBy_alloc _ _ _) (World.grownBy_alloc _ _ _)))).mono ?_
      rintro e w' ⟨rfl, rfl⟩
      go_wp2
      go_ret
      exact ⟨by simp, gb_trans (World.grownBy_alloc _ _ _) (World.grownBy_alloc _ _ _)⟩
    · rw [show (decide (X = X) && decide (Y = Y') && t) = false from by simp [e2]]
      go_enter Tryz.func18, Tryz.ntmps18
      go_wp2
      go_ret
      exact ⟨rfl, gb_trans (World.grownBy_alloc _ _ _) (World.grownBy_alloc _ _ _)⟩
  · rw [show (decide (X = X') && decide (Y = Y') && t) = false from by simp [e1]]
    go_enter Tryz.func18, Tryz.ntmps18
    go_wp2
    go_ret
    exact ⟨rfl, gb_trans (World.grownBy_alloc _ _ _) (World.grownBy_alloc _ _ _)⟩

set_option maxRecDepth 100000 in
theorem rsame_calls (X Y X' Y' : Int) (a a' : Option Addr) (c c' : Nat) (S S' : ByteArray) (w : World) (h1 : Bx a S w) (h2 : Bx a' S' w) :
    Calls Tryz.prog 13 #[.agg #[.int .i64 X, .int .i64 Y, .slice a S.size c], .agg #[.int .i64 X', .int .i64 Y', .slice a' S'.size c']] w fun e w' => e = .returned (.bool (sameB X Y S X' Y' S')) ∧ w.grownBy w' none := by
  have k1 : ∀ (O O' : Obj), (convert 25 9 (.slice a S.size c)).run Tryz.prog ((w.alloc O).alloc O') = .ok (.string S) ((w.alloc O).alloc O') := fun O O' => conv_bx (h1.grown (gb_trans (World.grownBy_alloc _ _ _) (World.grownBy_alloc _ _ _))) c
  have k2 : ∀ (O O' : Obj), (convert 25 9 (.slice a' S'.size c')).run Tryz.prog ((w.alloc O).alloc O') = .ok (.string S') ((w.alloc O).alloc O') := fun O O' => conv_bx (h2.grown (gb_trans (World.grownBy_alloc _ _ _) (World.grownBy_alloc _ _ _))) c'
  obtain ⟨t, ht⟩ : ∃ t, (S.toList == S'.toList) = t := ⟨_, rfl⟩
  have hb : sameB X Y S X' Y' S' = (decide (X = X') && decide (Y = Y') && t) := by rw [← ht]; rfl
  rw [hb]
  obtain ⟨n1, hn1⟩ : ∃ n, S.size = n := ⟨_, rfl⟩
  obtain ⟨n2, hn2⟩ : ∃ n, S'.size = n := ⟨_, rfl⟩
  simp only [hn1] at k1 ⊢
  simp only [hn2] at k2 ⊢
  have HT := Lib.hid ht
  clear h1 h2 hb hn1 hn2 ht
  by_cases e1 : X = X'
  · subst e1
    by_cases e2 : Y = Y'
    · subst e2
      go_enter Tryz.func13, Tryz.ntmps13
      go_wp2
      go_ret
      exact ⟨by rw [HT.out]; simp, gb_trans (World.grownBy_alloc _ _ _) (World.grownBy_alloc _ _ _)⟩
    · rw [show (decide (X = X) && decide (Y = Y') && t) = false from by simp [e2]]
      go_enter Tryz.func13, Tryz.ntmps13
      go_wp2
      go_ret
      exact ⟨rfl, gb_trans (World.grownBy_alloc _ _ _) (World.grownBy_alloc _ _ _)⟩
  · rw [show (decide (X = X') && decide (Y = Y') && t) = false from by simp [e1]]
    go_enter Tryz.func13, Tryz.ntmps13
    go_wp2
    go_ret
    exact ⟨rfl, gb_trans (World.grownBy_alloc _ _ _) (World.grownBy_alloc _ _ _)⟩

end Go.Proofs.YtnieeckdldpebaaGreat.Ra
