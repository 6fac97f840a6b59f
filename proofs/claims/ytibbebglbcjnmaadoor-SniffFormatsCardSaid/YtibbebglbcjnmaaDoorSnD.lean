/- Layer 30: the document's sign of a TGA file (written by wip/gen/sn10.py). -/
import Derived.Test.YtibbebglbcjnmaaDoorSn5b
namespace Go.Proofs.YtibbebglbcjnmaaDoor.Sn
open Go.ChangeShapes Go.WideShapes Go.ChangeAt Go.RowKit
open Go.Proofs.YtibbebglbcjnmaaDoor.Le Go.Proofs.YtibbebglbcjnmaaDoor.Tk Go.Proofs.YtibbebglbcjnmaaDoor.Dh Go.Proofs.YtibbebglbcjnmaaDoor.Id
set_option linter.unusedVariables false

theorem rcol_calls (n : Nat) (W : World) : Calls Tryd.prog 37 #[.int .i64 (n : Nat)] W fun e w' => e = .returned (.bool (Tg.colB n)) ∧ W = w' := by
  by_cases h : n = 15 ∨ n = 16 ∨ n = 24 ∨ n = 32
  · rw [show Tg.colB n = true from decide_eq_true h]
    rcases h with rfl | rfl | rfl | rfl
    all_goals
      go_enter Tryd.func37, Tryd.ntmps37
      go_wp2
      go_ret
      exact ⟨rfl, rfl⟩
  · rw [show Tg.colB n = false from decide_eq_false h]
    have d0 : ((n : Int) == 15) = false := by rw [beq_eq_false_iff_ne]; omega
    have d1 : ((n : Int) == 16) = false := by rw [beq_eq_false_iff_ne]; omega
    have d2 : ((n : Int) == 24) = false := by rw [beq_eq_false_iff_ne]; omega
    have d3 : ((n : Int) == 32) = false := by rw [beq_eq_false_iff_ne]; omega
    clear h
    go_enter Tryd.func37, Tryd.ntmps37
    go_wp2
    go_ret
    exact ⟨rfl, rfl⟩

/-- The end of a head's sign: sides and depth. -/
def endB (s : ByteArray) (c : Bool) : Bool := !((bt s 12 == 0 && bt s 13 == 0) || (bt s 14 == 0 && bt s 15 == 0)) && (if c then Tg.colB (bt s 16) else bt s 16 == 8)
/-- What may be: a type and a map's byte. -/
def mayT (t m : Nat) : Bool := decide (m ≤ 1) && (decide (t = 1 ∨ t = 9) && decide (m = 1) || decide (t = 2 ∨ t = 10 ∨ t = 3 ∨ t = 11))
def tB (s : ByteArray) : Bool := decide (18 ≤ s.size) && (mayT (bt s 2) (bt s 1) && (decide (bt s 1 = 0) || Tg.colB (bt s 7)) && endB s (decide (bt s 2 = 2 ∨ bt s 2 = 10)))
theorem wd_0 (s : ByteArray) (i : Nat) : (Tg.wd s i = 0) ↔ (bt s i = 0 ∧ bt s (i + 1) = 0) := by
  show bt s i + 256 * bt s (i + 1) = 0 ↔ _
  omega
theorem tB_is (s : ByteArray) : tB s = Tg.tgB s := by
  unfold tB Tg.tgB
  by_cases h18 : 18 ≤ s.size
  · rw [decide_eq_true h18, Bool.true_and, Bool.true_and]
    have h12 := wd_0 s 12
    have h14 := wd_0 s 14
    unfold endB mayT
    simp only [Tg.ck, Tg.typB, Tg.mpB, Tg.dpB]
    have e1 : Tg.bn s 1 = bt s 1 := rfl
    have e2 : Tg.bn s 2 = bt s 2 := rfl
    have e7 : Tg.bn s 7 = bt s 7 := rfl
    have e16 : Tg.bn s 16 = bt s 16 := rfl
    rw [e1, e2, e7, e16]
    generalize bt s 1 = m
    generalize bt s 2 = t
    generalize Tg.colB (bt s 7) = c7
    generalize Tg.colB (bt s 16) = c16
    have hw : decide (Tg.wd s 12 = 0) = (bt s 12 == 0 && bt s 13 == 0) := by
      rw [Bool.eq_iff_iff]
      simp [h12]
    have hh : decide (Tg.wd s 14 = 0) = (bt s 14 == 0 && bt s 15 == 0) := by
      rw [Bool.eq_iff_iff]
      simp [h14]
    rw [hw, hh]
    generalize (bt s 12 == 0 && bt s 13 == 0) = w0
    generalize (bt s 14 == 0 && bt s 15 == 0) = h0
    have hd : decide (bt s 16 = 8) = (bt s 16 == 8) := by
      rw [Bool.eq_iff_iff]
      simp
    rw [hd]
    generalize (bt s 16 == 8) = d8
    by_cases hm : m ≤ 1
    · by_cases ht : t = 1 ∨ t = 9 ∨ t = 2 ∨ t = 10 ∨ t = 3 ∨ t = 11
      · obtain hm0 | hm1 : m = 0 ∨ m = 1 := by omega
        · subst hm0
          rcases ht with rfl | rfl | rfl | rfl | rfl | rfl
          all_goals (cases c7 <;> cases c16 <;> cases w0 <;> cases h0 <;> cases d8 <;> rfl)
        · subst hm1
          rcases ht with rfl | rfl | rfl | rfl | rfl | rfl
          all_goals (cases c7 <;> cases c16 <;> cases w0 <;> cases h0 <;> cases d8 <;> rfl)
      · have a1 : decide (t = 1 ∨ t = 9) = false := decide_eq_false (by omega)
        have a2 : decide (t = 2 ∨ t = 10 ∨ t = 3 ∨ t = 11) = false := decide_eq_false (by omega)
        have a3 : decide (1 ≤ Tg.pln t ∧ Tg.pln t ≤ 3) = false := decide_eq_false (by unfold Tg.pln; split <;> omega)
        rw [a1, a2, a3]
        simp
    · have a1 : decide (m ≤ 1) = false := decide_eq_false hm
      have a2 : decide (1 < m) = true := decide_eq_true (by omega)
      rw [a1, a2]
      simp
  · rw [decide_eq_false h18]
    rfl

theorem ris_short (s : ByteArray) (h : s.size < 18) (W : World) : Calls Tryd.prog 25 #[.string s] W fun e w' => e = .returned (.bool false) ∧ W = w' := by
  have d0 : decide ((s.size : Int) < 18) = true := decide_eq_true (by omega)
  go_enter Tryd.func25, Tryd.ntmps25
  go_wp2
  go_ret
  exact ⟨rfl, rfl⟩
/-- What the walk of the sign reads. -/
structure Bs (s : ByteArray) (m t c a b p q d : Nat) : Prop where
  h : 18 ≤ s.size
  m : bt s 1 = m
  t : bt s 2 = t
  c : bt s 7 = c
  a : bt s 12 = a
  b : bt s 13 = b
  p : bt s 14 = p
  q : bt s 15 = q
  d : bt s 16 = d
set_option maxRecDepth 100000 in
set_option maxHeartbeats 2000000 in
theorem ris_m (s : ByteArray) (m t c a b p q d : Nat) (H : Bs s m t c a b p q d) (hm : 1 < m) (W : World) : Calls Tryd.prog 25 #[.string s] W fun e w' => e = .returned (.bool false) ∧ W = w' := by
  have d0 : decide ((s.size : Int) < 18) = false := decide_eq_false (by have := H.h; omega)
  have hz := H.h
  have c1 := bt_cell s 1 (by omega) H.m
  have c2 := bt_cell s 2 (by omega) H.t
  have c7 := bt_cell s 7 (by omega) H.c
  have c12 := bt_cell s 12 (by omega) H.a
  have c13 := bt_cell s 13 (by omega) H.b
  have c14 := bt_cell s 14 (by omega) H.p
  have c15 := bt_cell s 15 (by omega) H.q
  have c16 := bt_cell s 16 (by omega) H.d
  have KC7 := Lib.hid (fun u => rcol_calls c u)
  have KC16 := Lib.hid (fun u => rcol_calls d u)
  clear H
  have e1 : decide ((1 : Int) < (m : Int)) = true := decide_eq_true (by omega)
  clear KC7 KC16
  go_enter Tryd.func25, Tryd.ntmps25
  go_wp2
  go_ret
  exact ⟨rfl, rfl⟩

end Go.Proofs.YtibbebglbcjnmaaDoor.Sn
