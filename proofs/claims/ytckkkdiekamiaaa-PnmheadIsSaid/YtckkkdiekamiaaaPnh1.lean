/- Package pnmhead: what is told of kinds, sides, samples; how many bytes pixels have (written by wip/gen/pnh1.py). -/
import Derived.Test.YtckkkdiekamiaaaTokC
import Derived.Test.YtckkkdiekamiaaaTok6
namespace Go.Proofs.Ytckkkdiekamiaaa.Ph
open Go.ChangeShapes Go.WideShapes Go.ChangeAt Go.RowKit
open Go.Proofs.Ytckkkdiekamiaaa.Le Go.Proofs.Ytckkkdiekamiaaa.Sr Go.Proofs.Ytckkkdiekamiaaa.Tk
set_option linter.unusedVariables false

def rgB (a b x : Int) : Bool := decide (a ≤ x) && decide (x ≤ b)
theorem rgB_iff (a b x : Int) : rgB a b x = true ↔ a ≤ x ∧ x ≤ b := by simp [rgB]
theorem rgB_not (a b x : Int) : rgB a b x = false ↔ ¬ (a ≤ x ∧ x ≤ b) := by
  rw [← rgB_iff]
  simp
theorem rg_cases (a b x : Int) : (decide (a ≤ x) = false ∧ rgB a b x = false) ∨ (decide (a ≤ x) = true ∧ decide (x ≤ b) = true ∧ rgB a b x = true) ∨ (decide (a ≤ x) = true ∧ decide (x ≤ b) = false ∧ rgB a b x = false) := by
  rw [rgB_iff, rgB_not]
  by_cases h2 : a ≤ x
  · by_cases h3 : x ≤ b
    · exact .inr (.inl ⟨decide_eq_true h2, decide_eq_true h3, h2, h3⟩)
    · exact .inr (.inr ⟨decide_eq_true h2, decide_eq_false h3, fun h => h3 h.2⟩)
  · exact .inl ⟨decide_eq_false h2, fun h => h2 h.1⟩
def orB (a b x : Int) : Bool := (x == a) || (x == b)
theorem orB_iff (a b x : Int) : orB a b x = true ↔ x = a ∨ x = b := by simp [orB]
theorem orB_not (a b x : Int) : orB a b x = false ↔ ¬ (x = a ∨ x = b) := by
  rw [← orB_iff]
  simp
theorem or_cases (a b x : Int) : ((x == a) = true ∧ orB a b x = true) ∨ ((x == a) = false ∧ (x == b) = true ∧ orB a b x = true) ∨ ((x == a) = false ∧ (x == b) = false ∧ orB a b x = false) := by
  unfold orB
  cases (x == a) <;> cases (x == b) <;> simp

theorem text_calls (x : Int) (W : World) : Calls Try.prog 25 #[.int .i64 x] W fun e w' => e = .returned (.bool (rgB 1 3 x)) ∧ W = w' := by
  rcases rg_cases 1 3 x with ⟨d1, e⟩ | ⟨d1, d2, e⟩ | ⟨d1, d2, e⟩
  all_goals
    rw [e]
    clear e
    go_enter Try.func25, Try.ntmps25
    go_wp2
    go_ret
    exact ⟨rfl, rfl⟩

theorem isKind_calls (x : Int) (W : World) : Calls Try.prog 40 #[.int .i64 x] W fun e w' => e = .returned (.bool (rgB 1 6 x)) ∧ W = w' := by
  rcases rg_cases 1 6 x with ⟨d1, e⟩ | ⟨d1, d2, e⟩ | ⟨d1, d2, e⟩
  all_goals
    rw [e]
    clear e
    go_enter Try.func40, Try.ntmps40
    go_wp2
    go_ret
    exact ⟨rfl, rfl⟩

theorem isSide_calls (x : Int) (W : World) : Calls Try.prog 41 #[.int .i64 x] W fun e w' => e = .returned (.bool (rgB 1 16384 x)) ∧ W = w' := by
  rcases rg_cases 1 16384 x with ⟨d1, e⟩ | ⟨d1, d2, e⟩ | ⟨d1, d2, e⟩
  all_goals
    rw [e]
    clear e
    go_enter Try.func41, Try.ntmps41
    go_wp2
    go_ret
    exact ⟨rfl, rfl⟩

theorem isMost_calls (x : Int) (W : World) : Calls Try.prog 42 #[.int .i64 x] W fun e w' => e = .returned (.bool (rgB 1 65535 x)) ∧ W = w' := by
  rcases rg_cases 1 65535 x with ⟨d1, e⟩ | ⟨d1, d2, e⟩ | ⟨d1, d2, e⟩
  all_goals
    rw [e]
    clear e
    go_enter Try.func42, Try.ntmps42
    go_wp2
    go_ret
    exact ⟨rfl, rfl⟩

theorem colors_calls (x : Int) (W : World) : Calls Try.prog 26 #[.int .i64 x] W fun e w' => e = .returned (.bool (orB 3 6 x)) ∧ W = w' := by
  rcases or_cases 3 6 x with ⟨d1, e⟩ | ⟨d1, d2, e⟩ | ⟨d1, d2, e⟩
  all_goals
    rw [e]
    clear e
    go_enter Try.func26, Try.ntmps26
    go_wp2
    go_ret
    exact ⟨rfl, rfl⟩

theorem bitmap_calls (x : Int) (W : World) : Calls Try.prog 43 #[.int .i64 x] W fun e w' => e = .returned (.bool (orB 1 4 x)) ∧ W = w' := by
  rcases or_cases 1 4 x with ⟨d1, e⟩ | ⟨d1, d2, e⟩ | ⟨d1, d2, e⟩
  all_goals
    rw [e]
    clear e
    go_enter Try.func43, Try.ntmps43
    go_wp2
    go_ret
    exact ⟨rfl, rfl⟩

/-- May a head be asked? -/
def mayB (k w h m : Int) : Bool := !rgB 1 3 k && rgB 1 6 k && rgB 1 16384 w && rgB 1 16384 h && rgB 1 65535 m

set_option maxRecDepth 100000 in
theorem size_no (k w h m a : Int) (W : World) (hm : mayB k w h m = false) :
    Calls Try.prog 24 #[.agg #[.int .i64 k, .int .i64 w, .int .i64 h, .int .i64 m, .int .i64 a]] W fun e w' => e = .returned (.tuple #[.int .i64 0, .bool false]) ∧ W.grownBy w' none := by
  have K0 := fun u => text_calls k u
  have K1 := fun u => isKind_calls k u
  have K2 := fun u => isSide_calls w u
  have K3 := fun u => isSide_calls h u
  have K4 := fun u => isMost_calls m u
  have hc : (rgB 1 3 k = true) ∨ (rgB 1 3 k = false ∧ rgB 1 6 k = false) ∨ (rgB 1 3 k = false ∧ rgB 1 6 k = true ∧ rgB 1 16384 w = false) ∨ (rgB 1 3 k = false ∧ rgB 1 6 k = true ∧ rgB 1 16384 w = true ∧ rgB 1 16384 h = false) ∨ (rgB 1 3 k = false ∧ rgB 1 6 k = true ∧ rgB 1 16384 w = true ∧ rgB 1 16384 h = true ∧ rgB 1 65535 m = false) := by
    unfold mayB at hm
    revert hm
    cases rgB 1 3 k <;> cases rgB 1 6 k <;> cases rgB 1 16384 w <;> cases rgB 1 16384 h <;> cases rgB 1 65535 m <;> simp
  rcases hc with e0 | ⟨e0, e1⟩ | ⟨e0, e1, e2⟩ | ⟨e0, e1, e2, e3⟩ | ⟨e0, e1, e2, e3, e4⟩
  · simp only [e0] at K0
    have K0 := Lib.hid K0
    clear hm e0 K1 K2 K3 K4
    go_enter Try.func24, Try.ntmps24
    go_wp2_with fail
    refine (K0.out _).mono ?_
    rintro e w' ⟨rfl, rfl⟩
    go_wp2
    go_ret2
    exact ⟨rfl, World.grownBy_alloc _ _ _⟩
  · simp only [e0] at K0
    simp only [e1] at K1
    have K0 := Lib.hid K0
    have K1 := Lib.hid K1
    clear hm e0 e1 K2 K3 K4
    go_enter Try.func24, Try.ntmps24
    go_wp2_with fail
    refine (K0.out _).mono ?_
    rintro e w' ⟨rfl, rfl⟩
    go_wp2_with fail
    refine (K1.out _).mono ?_
    rintro e w' ⟨rfl, rfl⟩
    go_wp2
    go_ret2
    exact ⟨rfl, World.grownBy_alloc _ _ _⟩
  · simp only [e0] at K0
    simp only [e1] at K1
    simp only [e2] at K2
    have K0 := Lib.hid K0
    have K1 := Lib.hid K1
    have K2 := Lib.hid K2
    clear hm e0 e1 e2 K3 K4
    go_enter Try.func24, Try.ntmps24
    go_wp2_with fail
    refine (K0.out _).mono ?_
    rintro e w' ⟨rfl, rfl⟩
    go_wp2_with fail
    refine (K1.out _).mono ?_
    rintro e w' ⟨rfl, rfl⟩
    go_wp2_with fail
    refine (K2.out _).mono ?_
    rintro e w' ⟨rfl, rfl⟩
    go_wp2
    go_ret2
    exact ⟨rfl, World.grownBy_alloc _ _ _⟩
  · simp only [e0] at K0
    simp only [e1] at K1
    simp only [e2] at K2
    simp only [e3] at K3
    have K0 := Lib.hid K0
    have K1 := Lib.hid K1
    have K2 := Lib.hid K2
    have K3 := Lib.hid K3
    clear hm e0 e1 e2 e3 K4
    go_enter Try.func24, Try.ntmps24
    go_wp2_with fail
    refine (K0.out _).mono ?_
    rintro e w' ⟨rfl, rfl⟩
    go_wp2_with fail
    refine (K1.out _).mono ?_
    rintro e w' ⟨rfl, rfl⟩
    go_wp2_with fail
    refine (K2.out _).mono ?_
    rintro e w' ⟨rfl, rfl⟩
    go_wp2_with fail
    refine (K3.out _).mono ?_
    rintro e w' ⟨rfl, rfl⟩
    go_wp2
    go_ret2
    exact ⟨rfl, World.grownBy_alloc _ _ _⟩
  · simp only [e0] at K0
    simp only [e1] at K1
    simp only [e2] at K2
    simp only [e3] at K3
    simp only [e4] at K4
    have K0 := Lib.hid K0
    have K1 := Lib.hid K1
    have K2 := Lib.hid K2
    have K3 := Lib.hid K3
    have K4 := Lib.hid K4
    clear hm e0 e1 e2 e3 e4 
    go_enter Try.func24, Try.ntmps24
    go_wp2_with fail
    refine (K0.out _).mono ?_
    rintro e w' ⟨rfl, rfl⟩
    go_wp2_with fail
    refine (K1.out _).mono ?_
    rintro e w' ⟨rfl, rfl⟩
    go_wp2_with fail
    refine (K2.out _).mono ?_
    rintro e w' ⟨rfl, rfl⟩
    go_wp2_with fail
    refine (K3.out _).mono ?_
    rintro e w' ⟨rfl, rfl⟩
    go_wp2_with fail
    refine (K4.out _).mono ?_
    rintro e w' ⟨rfl, rfl⟩
    go_wp2
    go_ret2
    exact ⟨rfl, World.grownBy_alloc _ _ _⟩

set_option maxRecDepth 100000 in
theorem size_yes (k w h m : Nat) (a : Int) (W : World) (hk : 4 ≤ k ∧ k ≤ 6) (hw : 1 ≤ w ∧ w ≤ 16384) (hh : 1 ≤ h ∧ h ≤ 16384) (hm : 1 ≤ m ∧ m ≤ 65535) :
    Calls Try.prog 24 #[.agg #[.int .i64 k, .int .i64 w, .int .i64 h, .int .i64 m, .int .i64 a]] W fun e w' => e = .returned (.tuple #[.int .i64 ((h : Int) * (rowV k w m : Int)), .bool true]) ∧ W.grownBy w' none := by
  have K0 := fun u => text_calls k u
  have K1 := fun u => isKind_calls k u
  have K2 := fun u => isSide_calls w u
  have K3 := fun u => isSide_calls h u
  have K4 := fun u => isMost_calls m u
  simp only [(rgB_not 1 3 (k : Int)).2 (by omega)] at K0
  simp only [(rgB_iff 1 6 (k : Int)).2 (by omega)] at K1
  simp only [(rgB_iff 1 16384 (w : Int)).2 (by omega)] at K2
  simp only [(rgB_iff 1 16384 (h : Int)).2 (by omega)] at K3
  simp only [(rgB_iff 1 65535 (m : Int)).2 (by omega)] at K4
  have K0 := Lib.hid K0
  have K1 := Lib.hid K1
  have K2 := Lib.hid K2
  have K3 := Lib.hid K3
  have K4 := Lib.hid K4
  have hp : h * w ≤ 16384 * 16384 := Nat.mul_le_mul hh.2 hw.2
  have hp0 : (0 : Int) ≤ (h : Int) * (w : Int) := Int.mul_nonneg (by omega) (by omega)
  have hp1 : (h : Int) * (w : Int) ≤ 268435456 := by
    have : ((h * w : Nat) : Int) ≤ 268435456 := by omega
    rwa [Int.natCast_mul] at this
  obtain ⟨r, hr⟩ : ∃ r, rowV k w m = r := ⟨_, rfl⟩
  rw [hr]
  have hc : (k = 4 ∧ r = (w + 7) / 8) ∨ (k = 5 ∧ 255 < m ∧ r = 2 * w) ∨ (k = 5 ∧ m ≤ 255 ∧ r = w) ∨ (k = 6 ∧ 255 < m ∧ r = 2 * (3 * w)) ∨ (k = 6 ∧ m ≤ 255 ∧ r = 3 * w) := by
    rw [← hr]
    unfold rowV
    obtain rfl | rfl | rfl : k = 4 ∨ k = 5 ∨ k = 6 := by omega
    · rw [if_pos rfl]
      omega
    all_goals
      by_cases h : 255 < m
      · rw [if_neg (by decide), if_pos h]
        simp
        omega
      · rw [if_neg (by decide), if_neg h]
        simp
        omega
  clear hr hp
  rcases hc with ⟨rfl, rfl⟩ | ⟨rfl, hm2, rfl⟩ | ⟨rfl, hm2, rfl⟩ | ⟨rfl, hm2, rfl⟩ | ⟨rfl, hm2, rfl⟩
  · have KB := fun u => bitmap_calls (4 : Nat) u
    simp only [show orB 1 4 ((4 : Nat) : Int) = true from by decide] at KB
    have KB := Lib.hid KB
    have hq : (((w : Int) + 7).tdiv 8) = (((w + 7) / 8 : Nat) : Int) := by rw [Int.tdiv_eq_ediv_of_nonneg (by omega)]; omega
    obtain ⟨q, hqq⟩ : ∃ q : Nat, (w + 7) / 8 = q := ⟨_, rfl⟩
    rw [hqq] at hq ⊢
    have hqw : q ≤ w := by omega
    have hm0 : (0 : Int) ≤ (h : Int) * (q : Int) := Int.mul_nonneg (by omega) (by omega)
    have hm1 : (h : Int) * (q : Int) ≤ 268435456 := Int.le_trans (Int.mul_le_mul_of_nonneg_left (by omega) (by omega)) hp1
    clear hqq
    go_enter Try.func24, Try.ntmps24
    go_wp2_with fail
    refine (K0.out _).mono ?_
    rintro e w' ⟨rfl, rfl⟩
    go_wp2_with fail
    refine (K1.out _).mono ?_
    rintro e w' ⟨rfl, rfl⟩
    go_wp2_with fail
    refine (K2.out _).mono ?_
    rintro e w' ⟨rfl, rfl⟩
    go_wp2_with fail
    refine (K3.out _).mono ?_
    rintro e w' ⟨rfl, rfl⟩
    go_wp2_with fail
    refine (K4.out _).mono ?_
    rintro e w' ⟨rfl, rfl⟩
    go_wp2_with fail
    refine (KB.out _).mono ?_
    rintro e w' ⟨rfl, rfl⟩
    go_wp2
    go_ret2
    refine ⟨?_, World.grownBy_alloc _ _ _⟩
    rfl
  · have KB := fun u => bitmap_calls (5 : Nat) u
    simp only [show orB 1 4 ((5 : Nat) : Int) = false from by decide] at KB
    have KB := Lib.hid KB
    have KC := fun u => colors_calls (5 : Nat) u
    simp only [show orB 3 6 ((5 : Nat) : Int) = false from by decide] at KC
    have KC := Lib.hid KC
    go_enter Try.func24, Try.ntmps24
    go_wp2_with fail
    refine (K0.out _).mono ?_
    rintro e w' ⟨rfl, rfl⟩
    go_wp2_with fail
    refine (K1.out _).mono ?_
    rintro e w' ⟨rfl, rfl⟩
    go_wp2_with fail
    refine (K2.out _).mono ?_
    rintro e w' ⟨rfl, rfl⟩
    go_wp2_with fail
    refine (K3.out _).mono ?_
    rintro e w' ⟨rfl, rfl⟩
    go_wp2_with fail
    refine (K4.out _).mono ?_
    rintro e w' ⟨rfl, rfl⟩
    go_wp2_with fail
    refine (KB.out _).mono ?_
    rintro e w' ⟨rfl, rfl⟩
    go_wp2_with fail
    refine (KC.out _).mono ?_
    rintro e w' ⟨rfl, rfl⟩
    go_wp2
    go_ret2
    refine ⟨?_, World.grownBy_alloc _ _ _⟩
    simp [Int.mul_assoc, Int.mul_comm, Int.mul_left_comm]
  · have KB := fun u => bitmap_calls (5 : Nat) u
    simp only [show orB 1 4 ((5 : Nat) : Int) = false from by decide] at KB
    have KB := Lib.hid KB
    have KC := fun u => colors_calls (5 : Nat) u
    simp only [show orB 3 6 ((5 : Nat) : Int) = false from by decide] at KC
    have KC := Lib.hid KC
    go_enter Try.func24, Try.ntmps24
    go_wp2_with fail
    refine (K0.out _).mono ?_
    rintro e w' ⟨rfl, rfl⟩
    go_wp2_with fail
    refine (K1.out _).mono ?_
    rintro e w' ⟨rfl, rfl⟩
    go_wp2_with fail
    refine (K2.out _).mono ?_
    rintro e w' ⟨rfl, rfl⟩
    go_wp2_with fail
    refine (K3.out _).mono ?_
    rintro e w' ⟨rfl, rfl⟩
    go_wp2_with fail
    refine (K4.out _).mono ?_
    rintro e w' ⟨rfl, rfl⟩
    go_wp2_with fail
    refine (KB.out _).mono ?_
    rintro e w' ⟨rfl, rfl⟩
    go_wp2_with fail
    refine (KC.out _).mono ?_
    rintro e w' ⟨rfl, rfl⟩
    go_wp2
    go_ret2
    refine ⟨?_, World.grownBy_alloc _ _ _⟩
    simp
  · have KB := fun u => bitmap_calls (6 : Nat) u
    simp only [show orB 1 4 ((6 : Nat) : Int) = false from by decide] at KB
    have KB := Lib.hid KB
    have KC := fun u => colors_calls (6 : Nat) u
    simp only [show orB 3 6 ((6 : Nat) : Int) = true from by decide] at KC
    have KC := Lib.hid KC
    go_enter Try.func24, Try.ntmps24
    go_wp2_with fail
    refine (K0.out _).mono ?_
    rintro e w' ⟨rfl, rfl⟩
    go_wp2_with fail
    refine (K1.out _).mono ?_
    rintro e w' ⟨rfl, rfl⟩
    go_wp2_with fail
    refine (K2.out _).mono ?_
    rintro e w' ⟨rfl, rfl⟩
    go_wp2_with fail
    refine (K3.out _).mono ?_
    rintro e w' ⟨rfl, rfl⟩
    go_wp2_with fail
    refine (K4.out _).mono ?_
    rintro e w' ⟨rfl, rfl⟩
    go_wp2_with fail
    refine (KB.out _).mono ?_
    rintro e w' ⟨rfl, rfl⟩
    go_wp2_with fail
    refine (KC.out _).mono ?_
    rintro e w' ⟨rfl, rfl⟩
    go_wp2
    go_ret2
    refine ⟨?_, World.grownBy_alloc _ _ _⟩
    simp [Int.mul_assoc, Int.mul_comm, Int.mul_left_comm]
  · have KB := fun u => bitmap_calls (6 : Nat) u
    simp only [show orB 1 4 ((6 : Nat) : Int) = false from by decide] at KB
    have KB := Lib.hid KB
    have KC := fun u => colors_calls (6 : Nat) u
    simp only [show orB 3 6 ((6 : Nat) : Int) = true from by decide] at KC
    have KC := Lib.hid KC
    go_enter Try.func24, Try.ntmps24
    go_wp2_with fail
    refine (K0.out _).mono ?_
    rintro e w' ⟨rfl, rfl⟩
    go_wp2_with fail
    refine (K1.out _).mono ?_
    rintro e w' ⟨rfl, rfl⟩
    go_wp2_with fail
    refine (K2.out _).mono ?_
    rintro e w' ⟨rfl, rfl⟩
    go_wp2_with fail
    refine (K3.out _).mono ?_
    rintro e w' ⟨rfl, rfl⟩
    go_wp2_with fail
    refine (K4.out _).mono ?_
    rintro e w' ⟨rfl, rfl⟩
    go_wp2_with fail
    refine (KB.out _).mono ?_
    rintro e w' ⟨rfl, rfl⟩
    go_wp2_with fail
    refine (KC.out _).mono ?_
    rintro e w' ⟨rfl, rfl⟩
    go_wp2
    go_ret2
    refine ⟨?_, World.grownBy_alloc _ _ _⟩
    simp [Int.mul_assoc, Int.mul_comm, Int.mul_left_comm]

end Go.Proofs.Ytckkkdiekamiaaa.Ph
