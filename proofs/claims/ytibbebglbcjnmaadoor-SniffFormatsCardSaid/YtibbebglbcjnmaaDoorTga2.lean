/- Layer 16: the code's checks, each walked. -/
import Derived.Test.YtibbebglbcjnmaaDoorTga1
namespace Go.Proofs.YtibbebglbcjnmaaDoor.Tg
open Go.ChangeShapes Go.WideShapes Go.ChangeAt Go.RowKit
open Go.Proofs.YtibbebglbcjnmaaDoor.Le Go.Proofs.YtibbebglbcjnmaaDoor.Sr
set_option linter.unusedVariables false

/-- Block b is a head's fields; block b is a text. -/
def HB (b : Nat) (s : ByteArray) (w : World) : Prop := w.heap[b]? = some (.cells (hA s) 47 (0, 0))
def BB (b : Nat) (s : ByteArray) (w : World) : Prop := w.heap[b]? = some (.cells #[.string s] 9 (0, 0))
theorem HB.grown {b : Nat} {s : ByteArray} {w w' : World} (h : HB b s w) (g : w.grownBy w' none) : HB b s w' := old0 g h (blk_lt h) (by simp)
theorem BB.grown {b : Nat} {s : ByteArray} {w w' : World} (h : BB b s w) (g : w.grownBy w' none) : BB b s w' := old0 g h (blk_lt h) (by simp)
theorem BB.c0 {b : Nat} {s : ByteArray} {w : World} (h : BB b s w) : w.cell? ⟨b, 0, none⟩ = some (.string s) := blk_cell h 0
theorem HB.c0 {b : Nat} {s : ByteArray} {w : World} (h : HB b s w) : w.cell? ⟨b, 0, none⟩ = some (.int .i64 (bn s 0)) := blk_cell h 0

theorem HB.c1 {b : Nat} {s : ByteArray} {w : World} (h : HB b s w) : w.cell? ⟨b, 1, none⟩ = some (.bool (mpB s)) := blk_cell h 1

theorem HB.c2 {b : Nat} {s : ByteArray} {w : World} (h : HB b s w) : w.cell? ⟨b, 2, none⟩ = some (.int .i64 (bn s 2)) := blk_cell h 2

theorem HB.c3 {b : Nat} {s : ByteArray} {w : World} (h : HB b s w) : w.cell? ⟨b, 3, none⟩ = some (.int .i64 (fst s)) := blk_cell h 3

theorem HB.c4 {b : Nat} {s : ByteArray} {w : World} (h : HB b s w) : w.cell? ⟨b, 4, none⟩ = some (.int .i64 (cnt s)) := blk_cell h 4

theorem HB.c5 {b : Nat} {s : ByteArray} {w : World} (h : HB b s w) : w.cell? ⟨b, 5, none⟩ = some (.int .i64 (ent s)) := blk_cell h 5

theorem HB.c6 {b : Nat} {s : ByteArray} {w : World} (h : HB b s w) : w.cell? ⟨b, 6, none⟩ = some (.int .i64 (wd s 12)) := blk_cell h 6

theorem HB.c7 {b : Nat} {s : ByteArray} {w : World} (h : HB b s w) : w.cell? ⟨b, 7, none⟩ = some (.int .i64 (wd s 14)) := blk_cell h 7

theorem HB.c8 {b : Nat} {s : ByteArray} {w : World} (h : HB b s w) : w.cell? ⟨b, 8, none⟩ = some (.int .i64 (bn s 16)) := blk_cell h 8

theorem HB.c9 {b : Nat} {s : ByteArray} {w : World} (h : HB b s w) : w.cell? ⟨b, 9, none⟩ = some (.int .i64 (alp s)) := blk_cell h 9

theorem HB.c10 {b : Nat} {s : ByteArray} {w : World} (h : HB b s w) : w.cell? ⟨b, 10, none⟩ = some (.bool (lft s)) := blk_cell h 10

theorem HB.c11 {b : Nat} {s : ByteArray} {w : World} (h : HB b s w) : w.cell? ⟨b, 11, none⟩ = some (.bool (tpp s)) := blk_cell h 11


set_option maxRecDepth 100000 in
theorem cl0 (b : Nat) (s : ByteArray) (W : World) (H : BB b s W) (h18 : 18 ≤ s.size) (hm : s.size ≤ 9223372036854775807) :
    Calls Tryd.prog 40 #[.pointer (some ⟨b, 0, none⟩)] W fun e w' => e = .returned (.bool (ck s 0)) ∧ W.grownBy w' none := by
  have c0 := H.c0
  have hx := bn_lt s 1
  obtain ⟨x, ex⟩ : ∃ x, bn s 1 = x := ⟨_, rfl⟩
  have g0 : ((s[1]'(by omega)).toNat : Int) = (x : Int) := bn_cell s 1 (by omega) ex
  rw [show ck s 0 = decide ((1 : Int) < x) from by show decide (1 < bn s 1) = _; rw [ex, Bool.eq_iff_iff]; simp; omega]
  clear H ex
  go_enter Tryd.func40, Tryd.ntmps40
  go_wp2_with fail
  try go_quiet (fail)
  go_wp2
  go_ret
  exact ⟨rfl, by first | exact gb_drewN _ _ _ | exact gb_refl _ _⟩


set_option maxRecDepth 100000 in
theorem cl10 (b : Nat) (s : ByteArray) (W : World) (H : BB b s W) (h18 : 18 ≤ s.size) (hm : s.size ≤ 9223372036854775807) :
    Calls Tryd.prog 54 #[.pointer (some ⟨b, 0, none⟩)] W fun e w' => e = .returned (.bool (ck s 10)) ∧ W.grownBy w' none := by
  have c0 := H.c0
  have hx := bn_lt s 17
  obtain ⟨x, ex⟩ : ∃ x, bn s 17 = x := ⟨_, rfl⟩
  have g0 : ((s[17]'(by omega)).toNat : Int) = (x : Int) := bn_cell s 17 (by omega) ex
  have ea : bits .and .u8 (x : Int) 192 = ((x &&& 192 : Nat) : Int) := by
    have h1 : (BitVec.ofInt 8 (x : Int)).toNat = x := by rw [BitVec.ofInt_natCast, BitVec.toNat_ofNat]; exact Nat.mod_eq_of_lt (by omega)
    have h2 := @Nat.and_le_right x 192
    unfold bits
    show IntKind.u8.wrap (((BitVec.ofInt 8 (x : Int)) &&& (BitVec.ofInt 8 192)).toNat : Int) = _
    rw [BitVec.toNat_and, h1, show (BitVec.ofInt 8 192).toNat = 192 from by decide, IntKind.wrap_u8]
    omega
  rw [show ck s 10 = (((x &&& 192 : Nat) : Int) != 0) from by
    show decide (64 ≤ bn s 17) = _
    have key : ∀ x : Nat, x < 256 → decide (64 ≤ x) = (((x &&& 192 : Nat) : Int) != 0) := by decide
    rw [ex] at hx ⊢
    exact key x hx]
  obtain ⟨y, ey⟩ : ∃ y, ((x &&& 192 : Nat) : Int) = y := ⟨_, rfl⟩
  rw [ey] at ea ⊢
  clear H ex ey
  go_enter Tryd.func54, Tryd.ntmps54
  go_wp2_with fail
  try go_quiet (fail)
  go_wp2
  go_ret
  exact ⟨rfl, by first | exact gb_drewN _ _ _ | exact gb_refl _ _⟩


set_option maxRecDepth 100000 in
theorem cl1 (b : Nat) (s : ByteArray) (W : World) (H : HB b s W) :
    Calls Tryd.prog 41 #[.pointer (some ⟨b, 0, none⟩)] W fun e w' => e = .returned (.bool (ck s 1)) ∧ W.grownBy w' none := by
  have c := H.c2
  have K := Lib.hid (fun u => isType_calls (bn s 2) (bn_lt s 2) u)
  show Calls _ _ _ _ fun e w' => e = .returned (.bool (!(typB (bn s 2)))) ∧ W.grownBy w' none
  obtain ⟨x, ex⟩ : ∃ x, bn s 2 = x := ⟨_, rfl⟩
  obtain ⟨y, ey⟩ : ∃ y, typB (bn s 2) = y := ⟨_, rfl⟩
  rw [ey] at K ⊢
  rw [ex] at K c
  clear H ex ey
  go_enter Tryd.func41, Tryd.ntmps41
  go_wp2_with fail
  refine (K.out _).mono ?_
  rintro e w' ⟨rfl, rfl⟩
  go_wp2
  go_ret
  exact ⟨rfl, gb_refl _ _⟩


set_option maxRecDepth 100000 in
theorem cl2 (b : Nat) (s : ByteArray) (W : World) (H : HB b s W) :
    Calls Tryd.prog 43 #[.pointer (some ⟨b, 0, none⟩)] W fun e w' => e = .returned (.bool (ck s 2)) ∧ W.grownBy w' none := by
  have c := H.c2
  have c1 := H.c1
  have K := Lib.hid (fun u => plain_calls (bn s 2) (bn_lt s 2) u)
  show Calls _ _ _ _ fun e w' => e = .returned (.bool (decide (pln (bn s 2) = 1) && !(mpB s))) ∧ W.grownBy w' none
  obtain ⟨x, ex⟩ : ∃ x, bn s 2 = x := ⟨_, rfl⟩
  obtain ⟨y, ey⟩ : ∃ y, pln (bn s 2) = y := ⟨_, rfl⟩
  obtain ⟨z, ez⟩ : ∃ z, mpB s = z := ⟨_, rfl⟩
  rw [ey] at K ⊢
  rw [ex] at K c
  rw [ez] at c1 ⊢
  clear H ex ey ez
  by_cases h : y = 1
  · subst h
    rw [show (decide (1 = 1) && !z) = !z from by simp]
    go_enter Tryd.func43, Tryd.ntmps43
    go_wp2_with fail
    refine (K.out _).mono ?_
    rintro e w' ⟨rfl, rfl⟩
    go_wp2
    go_ret
    exact ⟨rfl, gb_refl _ _⟩
  · rw [show (decide (y = 1) && !z) = false from by simp [h]]
    have h' : ((y : Int) == 1) = false := by rw [beq_eq_false_iff_ne]; omega
    clear h
    go_enter Tryd.func43, Tryd.ntmps43
    go_wp2_with fail
    refine (K.out _).mono ?_
    rintro e w' ⟨rfl, rfl⟩
    go_wp2
    go_ret
    exact ⟨rfl, gb_refl _ _⟩


set_option maxRecDepth 100000 in
theorem cl3 (b : Nat) (s : ByteArray) (W : World) (H : HB b s W) :
    Calls Tryd.prog 45 #[.pointer (some ⟨b, 0, none⟩)] W fun e w' => e = .returned (.bool (ck s 3)) ∧ W.grownBy w' none := by
  have c := H.c1
  have c5 := H.c5
  have K := Lib.hid (fun u => isColor_calls (ent s) u)
  cases hz : mpB s with
  | false =>
    rw [hz] at c
    show Calls _ _ _ _ fun e w' => e = .returned (.bool (mpB s && !(colB (bn s 7)))) ∧ W.grownBy w' none
    rw [hz, Bool.false_and]
    clear H hz K
    go_enter Tryd.func45, Tryd.ntmps45
    go_wp2
    go_ret
    exact ⟨rfl, gb_refl _ _⟩
  | true =>
    rw [hz] at c
    show Calls _ _ _ _ fun e w' => e = .returned (.bool (mpB s && !(colB (bn s 7)))) ∧ W.grownBy w' none
    have he : ent s = bn s 7 := by unfold ent; rw [if_pos hz]
    rw [hz, Bool.true_and, ← he]
    obtain ⟨x, ex⟩ : ∃ x, ent s = x := ⟨_, rfl⟩
    rw [ex] at K c5 ⊢
    obtain ⟨y, ey⟩ : ∃ y, colB x = y := ⟨_, rfl⟩
    rw [ey] at K ⊢
    clear H hz he ex ey
    go_enter Tryd.func45, Tryd.ntmps45
    go_wp2_with fail
    refine (K.out _).mono ?_
    rintro e w' ⟨rfl, rfl⟩
    go_wp2
    go_ret
    exact ⟨rfl, gb_refl _ _⟩


set_option maxRecDepth 100000 in
theorem cl4 (b : Nat) (s : ByteArray) (W : World) (H : HB b s W) :
    Calls Tryd.prog 47 #[.pointer (some ⟨b, 0, none⟩)] W fun e w' => e = .returned (.bool (ck s 4)) ∧ W.grownBy w' none := by
  have c := H.c1
  have c4 := H.c4
  cases hz : mpB s with
  | false =>
    rw [hz] at c
    show Calls _ _ _ _ fun e w' => e = .returned (.bool (mpB s && decide (wd s 5 = 0))) ∧ W.grownBy w' none
    rw [hz, Bool.false_and]
    clear H hz
    go_enter Tryd.func47, Tryd.ntmps47
    go_wp2
    go_ret
    exact ⟨rfl, gb_refl _ _⟩
  | true =>
    rw [hz] at c
    show Calls _ _ _ _ fun e w' => e = .returned (.bool (mpB s && decide (wd s 5 = 0))) ∧ W.grownBy w' none
    have he : cnt s = wd s 5 := by unfold cnt; rw [if_pos hz]
    rw [hz, Bool.true_and, ← he]
    obtain ⟨x, ex⟩ : ∃ x, cnt s = x := ⟨_, rfl⟩
    rw [ex] at c4 ⊢
    rw [show decide (x = 0) = ((x : Int) == 0) from by rw [Bool.eq_iff_iff]; simp]
    clear H hz he ex
    go_enter Tryd.func47, Tryd.ntmps47
    go_wp2
    go_ret
    exact ⟨rfl, gb_refl _ _⟩


set_option maxRecDepth 100000 in
theorem cl5 (b : Nat) (s : ByteArray) (W : World) (H : HB b s W) :
    Calls Tryd.prog 48 #[.pointer (some ⟨b, 0, none⟩)] W fun e w' => e = .returned (.bool (ck s 5)) ∧ W.grownBy w' none := by
  have c := H.c6
  show Calls _ _ _ _ fun e w' => e = .returned (.bool (decide (wd s 12 = 0))) ∧ W.grownBy w' none
  obtain ⟨x, ex⟩ : ∃ x, wd s 12 = x := ⟨_, rfl⟩
  rw [ex] at c ⊢
  rw [show decide (x = 0) = ((x : Int) == 0) from by rw [Bool.eq_iff_iff]; simp]
  clear H ex
  go_enter Tryd.func48, Tryd.ntmps48
  go_wp2
  go_ret
  exact ⟨rfl, gb_refl _ _⟩


set_option maxRecDepth 100000 in
theorem cl6 (b : Nat) (s : ByteArray) (W : World) (H : HB b s W) :
    Calls Tryd.prog 49 #[.pointer (some ⟨b, 0, none⟩)] W fun e w' => e = .returned (.bool (ck s 6)) ∧ W.grownBy w' none := by
  have c := H.c6
  show Calls _ _ _ _ fun e w' => e = .returned (.bool (decide (16384 < wd s 12))) ∧ W.grownBy w' none
  obtain ⟨x, ex⟩ : ∃ x, wd s 12 = x := ⟨_, rfl⟩
  rw [ex] at c ⊢
  rw [show decide (16384 < x) = decide ((16384 : Int) < x) from by rw [Bool.eq_iff_iff]; simp; omega]
  clear H ex
  go_enter Tryd.func49, Tryd.ntmps49
  go_wp2
  go_ret
  exact ⟨rfl, gb_refl _ _⟩


set_option maxRecDepth 100000 in
theorem cl7 (b : Nat) (s : ByteArray) (W : World) (H : HB b s W) :
    Calls Tryd.prog 50 #[.pointer (some ⟨b, 0, none⟩)] W fun e w' => e = .returned (.bool (ck s 7)) ∧ W.grownBy w' none := by
  have c := H.c7
  show Calls _ _ _ _ fun e w' => e = .returned (.bool (decide (wd s 14 = 0))) ∧ W.grownBy w' none
  obtain ⟨x, ex⟩ : ∃ x, wd s 14 = x := ⟨_, rfl⟩
  rw [ex] at c ⊢
  rw [show decide (x = 0) = ((x : Int) == 0) from by rw [Bool.eq_iff_iff]; simp]
  clear H ex
  go_enter Tryd.func50, Tryd.ntmps50
  go_wp2
  go_ret
  exact ⟨rfl, gb_refl _ _⟩


set_option maxRecDepth 100000 in
theorem cl8 (b : Nat) (s : ByteArray) (W : World) (H : HB b s W) :
    Calls Tryd.prog 51 #[.pointer (some ⟨b, 0, none⟩)] W fun e w' => e = .returned (.bool (ck s 8)) ∧ W.grownBy w' none := by
  have c := H.c7
  show Calls _ _ _ _ fun e w' => e = .returned (.bool (decide (16384 < wd s 14))) ∧ W.grownBy w' none
  obtain ⟨x, ex⟩ : ∃ x, wd s 14 = x := ⟨_, rfl⟩
  rw [ex] at c ⊢
  rw [show decide (16384 < x) = decide ((16384 : Int) < x) from by rw [Bool.eq_iff_iff]; simp; omega]
  clear H ex
  go_enter Tryd.func51, Tryd.ntmps51
  go_wp2
  go_ret
  exact ⟨rfl, gb_refl _ _⟩


set_option maxRecDepth 100000 in
theorem cl9 (b : Nat) (s : ByteArray) (W : World) (H : HB b s W) :
    Calls Tryd.prog 52 #[.pointer (some ⟨b, 0, none⟩)] W fun e w' => e = .returned (.bool (ck s 9)) ∧ W.grownBy w' none := by
  have c := H.c8
  have c2 := H.c2
  have K := Lib.hid (fun u => isDepth_calls (bn s 16) (bn s 2) (bn_lt s 2) u)
  show Calls _ _ _ _ fun e w' => e = .returned (.bool (!(dpB (bn s 16) (bn s 2)))) ∧ W.grownBy w' none
  obtain ⟨z, ez⟩ : ∃ z, dpB (bn s 16) (bn s 2) = z := ⟨_, rfl⟩
  obtain ⟨x, ex⟩ : ∃ x, bn s 16 = x := ⟨_, rfl⟩
  obtain ⟨y, ey⟩ : ∃ y, bn s 2 = y := ⟨_, rfl⟩
  rw [ez] at K ⊢
  rw [ex] at K c
  rw [ey] at K c2
  clear H ex ey ez
  go_enter Tryd.func52, Tryd.ntmps52
  go_wp2_with fail
  try go_quiet (fail)
  refine (K.out _).mono ?_
  rintro e w' ⟨rfl, rfl⟩
  go_wp2
  go_ret
  exact ⟨rfl, by first | exact gb_drewN _ _ _ | exact gb_refl _ _⟩


set_option maxRecDepth 100000 in
theorem cl11 (b : Nat) (s : ByteArray) (W : World) (H : HB b s W) :
    Calls Tryd.prog 55 #[.pointer (some ⟨b, 0, none⟩)] W fun e w' => e = .returned (.bool (ck s 11)) ∧ W.grownBy w' none := by
  have c := H.c9
  have c2 := H.c8
  have K := Lib.hid (fun u => isAlpha_calls (alp s) (bn s 16)  u)
  show Calls _ _ _ _ fun e w' => e = .returned (.bool (!(alB (alp s) (bn s 16)))) ∧ W.grownBy w' none
  obtain ⟨z, ez⟩ : ∃ z, alB (alp s) (bn s 16) = z := ⟨_, rfl⟩
  obtain ⟨x, ex⟩ : ∃ x, alp s = x := ⟨_, rfl⟩
  obtain ⟨y, ey⟩ : ∃ y, bn s 16 = y := ⟨_, rfl⟩
  rw [ez] at K ⊢
  rw [ex] at K c
  rw [ey] at K c2
  clear H ex ey ez
  go_enter Tryd.func55, Tryd.ntmps55
  go_wp2_with fail
  try go_quiet (fail)
  refine (K.out _).mono ?_
  rintro e w' ⟨rfl, rfl⟩
  go_wp2
  go_ret
  exact ⟨rfl, by first | exact gb_drewN _ _ _ | exact gb_refl _ _⟩


end Go.Proofs.YtibbebglbcjnmaaDoor.Tg
