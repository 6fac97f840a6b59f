/- Layer 30: the signs of formats (written by wip/gen/sn1.py). -/
import Derived.Test.YtibbebglbcjnmaaDoorTok3
import Derived.Test.YtibbebglbcjnmaaDoorId2
namespace Go.Proofs.YtibbebglbcjnmaaDoor.Sn
open Go.ChangeShapes Go.WideShapes Go.ChangeAt Go.RowKit
open Go.Proofs.YtibbebglbcjnmaaDoor.Le Go.Proofs.YtibbebglbcjnmaaDoor.Tk Go.Proofs.YtibbebglbcjnmaaDoor.Sr Go.Proofs.YtibbebglbcjnmaaDoor.Dh Go.Proofs.YtibbebglbcjnmaaDoor.Id
set_option linter.unusedVariables false

theorem grf (w : World) (r : Option Nat) : w.grownBy w r := ⟨rfl, rfl, rfl, Nat.le_refl _, fun _ _ _ => rfl⟩
/-- Does a text begin so? -/
def isB (sg s : ByteArray) : Bool := decide (sg.size ≤ s.size) && ((s.extract 0 sg.size).toList == sg.toList)

set_option maxRecDepth 100000 in
theorem prefix_calls (s sg : ByteArray) (W : World) : Calls Tryd.prog 17 #[.string s, .string sg] W fun e w' => e = .returned (.bool (isB sg s)) ∧ W = w' := by
  have K : ∀ u, Calls Tryd.prog 31 #[.string s, .string sg] u fun e w' => e = .returned (.bool (isB sg s)) ∧ u = w' := by
    intro u
    by_cases hl : sg.size ≤ s.size
    · have d1 : decide ((sg.size : Int) ≤ (s.size : Int)) = true := decide_eq_true (by omega)
      have d1' : (sg.size : Int) ≤ (s.size : Int) := by omega
      rw [show isB sg s = ((s.extract 0 sg.size).toList == sg.toList) by unfold isB; rw [decide_eq_true hl]; rfl]
      go_enter Tryd.func31, Tryd.ntmps31
      go_wp2
      go_ret
      exact ⟨rfl, rfl⟩
    · have d1 : decide ((sg.size : Int) ≤ (s.size : Int)) = false := decide_eq_false (by omega)
      have d1' : ¬ (sg.size : Int) ≤ (s.size : Int) := by omega
      rw [show isB sg s = false by unfold isB; rw [decide_eq_false hl]; rfl]
      go_enter Tryd.func31, Tryd.ntmps31
      go_wp2
      go_ret
      exact ⟨rfl, rfl⟩
  have HK := Lib.hid K
  clear K
  go_enter Tryd.func17, Tryd.ntmps17
  go_wp2_with fail
  refine (HK.out _).mono ?_
  rintro e w' ⟨rfl, rfl⟩
  go_wp2
  go_ret
  exact ⟨rfl, rfl⟩
def qoS : ByteArray := ⟨#[113, 111, 105, 102]⟩
theorem qo_calls (s : ByteArray) (W : World) : Calls Tryd.prog 21 #[.string s] W fun e w' => e = .returned (.bool (isB qoS s)) ∧ W = w' := by
  have HK := Lib.hid (prefix_calls s qoS)
  unfold qoS at HK
  unfold qoS
  obtain ⟨b, hb⟩ : ∃ b, isB (⟨#[113, 111, 105, 102]⟩ : ByteArray) s = b := ⟨_, rfl⟩
  rw [hb] at HK ⊢
  clear hb
  go_enter Tryd.func21, Tryd.ntmps21
  go_wp2_with fail
  refine (HK.out _).mono ?_
  rintro e w' ⟨rfl, rfl⟩
  go_wp2
  go_ret
  exact ⟨rfl, rfl⟩

def ffS : ByteArray := ⟨#[102, 97, 114, 98, 102, 101, 108, 100]⟩
theorem ff_calls (s : ByteArray) (W : World) : Calls Tryd.prog 22 #[.string s] W fun e w' => e = .returned (.bool (isB ffS s)) ∧ W = w' := by
  have HK := Lib.hid (prefix_calls s ffS)
  unfold ffS at HK
  unfold ffS
  obtain ⟨b, hb⟩ : ∃ b, isB (⟨#[102, 97, 114, 98, 102, 101, 108, 100]⟩ : ByteArray) s = b := ⟨_, rfl⟩
  rw [hb] at HK ⊢
  clear hb
  go_enter Tryd.func22, Tryd.ntmps22
  go_wp2_with fail
  refine (HK.out _).mono ?_
  rintro e w' ⟨rfl, rfl⟩
  go_wp2
  go_ret
  exact ⟨rfl, rfl⟩

def suS : ByteArray := ⟨#[89, 166, 106, 149]⟩
theorem su_calls (s : ByteArray) (W : World) : Calls Tryd.prog 24 #[.string s] W fun e w' => e = .returned (.bool (isB suS s)) ∧ W = w' := by
  have HK := Lib.hid (prefix_calls s suS)
  unfold suS at HK
  unfold suS
  obtain ⟨b, hb⟩ : ∃ b, isB (⟨#[89, 166, 106, 149]⟩ : ByteArray) s = b := ⟨_, rfl⟩
  rw [hb] at HK ⊢
  clear hb
  go_enter Tryd.func24, Tryd.ntmps24
  go_wp2_with fail
  refine (HK.out _).mono ?_
  rintro e w' ⟨rfl, rfl⟩
  go_wp2
  go_ret
  exact ⟨rfl, rfl⟩

theorem blank_calls (b : Nat) (W : World) : Calls Tryd.prog 34 #[.int .i64 b] W fun e w' => e = .returned (.bool (blankB b)) ∧ W = w' := by
  have hc : (((b : Int) == 32) = true ∧ blankB b = true) ∨ (((b : Int) == 32) = false ∧ decide ((9 : Int) ≤ b) = false ∧ blankB b = false) ∨ (((b : Int) == 32) = false ∧ decide ((9 : Int) ≤ b) = true ∧ decide ((b : Int) ≤ 13) = true ∧ blankB b = true) ∨
      (((b : Int) == 32) = false ∧ decide ((9 : Int) ≤ b) = true ∧ decide ((b : Int) ≤ 13) = false ∧ blankB b = false) := by
    rw [blankB_iff, blankB_not]
    by_cases h1 : b = 32
    · exact .inl ⟨by rw [beq_iff_eq]; omega, .inl h1⟩
    · have e1 : ((b : Int) == 32) = false := by rw [beq_eq_false_iff_ne]; omega
      by_cases h2 : 9 ≤ b
      · by_cases h3 : b ≤ 13
        · exact .inr (.inr (.inl ⟨e1, decide_eq_true (by omega), decide_eq_true (by omega), .inr ⟨h2, h3⟩⟩))
        · exact .inr (.inr (.inr ⟨e1, decide_eq_true (by omega), decide_eq_false (by omega), by omega⟩))
      · exact .inr (.inl ⟨e1, decide_eq_false (by omega), by omega⟩)
  rcases hc with ⟨d1, e⟩ | ⟨d1, d2, e⟩ | ⟨d1, d2, d3, e⟩ | ⟨d1, d2, d3, e⟩
  all_goals
    rw [e]
    clear e
    go_enter Tryd.func34, Tryd.ntmps34
    go_wp2
    go_ret
    exact ⟨rfl, rfl⟩

def rgB (a b x : Int) : Bool := decide (a ≤ x) && decide (x ≤ b)
theorem rgB_iff (a b x : Int) : rgB a b x = true ↔ a ≤ x ∧ x ≤ b := by simp [rgB]
theorem rgB_not (a b x : Int) : rgB a b x = false ↔ ¬ (a ≤ x ∧ x ≤ b) := by
  rw [← rgB_iff]
  simp
theorem rg_cases (a b x : Int) : (decide (a ≤ x) = false ∧ rgB a b x = false) ∨ (decide (a ≤ x) = true ∧ decide (x ≤ b) = true ∧ rgB a b x = true) ∨ (decide (a ≤ x) = true ∧ decide (x ≤ b) = false ∧ rgB a b x = false) := by
  rw [rgB_iff, rgB_not]
  by_cases h2 : a ≤ x
  · by_cases h3 : x ≤ b
    · exact .inr (.inl ⟨decide_eq_true h2, decide_eq_true h3, h2, h3⟩)
    · exact .inr (.inr ⟨decide_eq_true h2, decide_eq_false h3, fun h => h3 h.2⟩)
  · exact .inl ⟨decide_eq_false h2, fun h => h2 h.1⟩
theorem isKind_calls (x : Int) (W : World) : Calls Tryd.prog 33 #[.int .i64 x] W fun e w' => e = .returned (.bool (rgB 1 6 x)) ∧ W = w' := by
  rcases rg_cases 1 6 x with ⟨d1, e⟩ | ⟨d1, d2, e⟩ | ⟨d1, d2, e⟩
  all_goals
    rw [e]
    clear e
    go_enter Tryd.func33, Tryd.ntmps33
    go_wp2
    go_ret
    exact ⟨rfl, rfl⟩

inductive Beg (s : ByteArray) : Bool → Prop
  | short (h : s.size ≤ 2) : Beg s false
  | first (x : Nat) (h : 2 < s.size) (hx : bt s 0 = x) (h1 : x ≠ 80) : Beg s false
  | low (y : Nat) (h : 2 < s.size) (hx : bt s 0 = 80) (hy : bt s 1 = y) (h1 : y < 49) : Beg s false
  | high (y : Nat) (h : 2 < s.size) (hx : bt s 0 = 80) (hy : bt s 1 = y) (h1 : 54 < y) : Beg s false
  | sharp (y : Nat) (h : 2 < s.size) (hx : bt s 0 = 80) (hy : bt s 1 = y) (h1 : 49 ≤ y) (h2 : y ≤ 54) (hz : bt s 2 = 35) : Beg s true
  | blank (y z : Nat) (h : 2 < s.size) (hx : bt s 0 = 80) (hy : bt s 1 = y) (h1 : 49 ≤ y) (h2 : y ≤ 54) (hz : bt s 2 = z) (h3 : z ≠ 35) (h4 : blankB z = true) : Beg s true
  | other (y z : Nat) (h : 2 < s.size) (hx : bt s 0 = 80) (hy : bt s 1 = y) (h1 : 49 ≤ y) (h2 : y ≤ 54) (hz : bt s 2 = z) (h3 : z ≠ 35) (h4 : blankB z = false) : Beg s false
theorem beg_of (s : ByteArray) : ∃ b, Beg s b := by
  by_cases h : s.size ≤ 2
  · exact ⟨_, .short h⟩
  · by_cases h0 : bt s 0 = 80
    · by_cases h1 : bt s 1 < 49
      · exact ⟨_, .low _ (by omega) h0 rfl h1⟩
      · by_cases h2 : 54 < bt s 1
        · exact ⟨_, .high _ (by omega) h0 rfl h2⟩
        · by_cases h3 : bt s 2 = 35
          · exact ⟨_, .sharp _ (by omega) h0 rfl (by omega) (by omega) h3⟩
          · cases h4 : blankB (bt s 2)
            · exact ⟨_, .other _ _ (by omega) h0 rfl (by omega) (by omega) rfl h3 h4⟩
            · exact ⟨_, .blank _ _ (by omega) h0 rfl (by omega) (by omega) rfl h3 h4⟩
    · exact ⟨_, .first _ (by omega) rfl h0⟩

set_option maxRecDepth 100000 in
set_option maxHeartbeats 4000000 in
theorem pn_calls (s : ByteArray) (b : Bool) (W : World) (hs : s.size ≤ 9223372036854775807) (hb : Beg s b) : Calls Tryd.prog 19 #[.string s] W fun e w' => e = .returned (.bool b) ∧ W = w' := by
  cases hb with
  | short h =>
    have d0 : decide ((2 : Int) < s.size) = false := decide_eq_false (by omega)
    go_enter Tryd.func19, Tryd.ntmps19
    go_wp2_with fail
    go_ret
    exact ⟨rfl, rfl⟩
  | first x h hx h1 =>
    have d0 : decide ((2 : Int) < s.size) = true := decide_eq_true (by omega)
    have c0 := bt_cell s 0 (by omega) hx
    have e1 : ((x : Int) == 80) = false := by rw [beq_eq_false_iff_ne]; omega
    clear hx h1
    go_enter Tryd.func19, Tryd.ntmps19
    go_wp2_with fail
    go_ret
    exact ⟨rfl, rfl⟩
  | low y h hx hy h1 =>
    have d0 : decide ((2 : Int) < s.size) = true := decide_eq_true (by omega)
    have c0 := bt_cell s 0 (by omega) hx
    have c1 := bt_cell s 1 (by omega) hy
    have y256 : y < 256 := by rw [← hy]; exact bt_lt s 1
    have d1 : decide ((49 : Int) ≤ y) = false := decide_eq_false (by omega)
    have KK := fun u => isKind_calls ((y : Int) - 48) u
    simp only [(rgB_not 1 6 ((y : Int) - 48)).2 (by omega)] at KK
    have KK := Lib.hid KK
    clear hx hy h1
    go_enter Tryd.func19, Tryd.ntmps19
    go_wp2_with fail
    refine (KK.out _).mono ?_
    rintro e w' ⟨rfl, rfl⟩
    go_wp2_with fail
    go_ret
    exact ⟨rfl, rfl⟩
  | high y h hx hy h1 =>
    have d0 : decide ((2 : Int) < s.size) = true := decide_eq_true (by omega)
    have c0 := bt_cell s 0 (by omega) hx
    have c1 := bt_cell s 1 (by omega) hy
    have y256 : y < 256 := by rw [← hy]; exact bt_lt s 1
    have d1 : decide ((49 : Int) ≤ y) = true := decide_eq_true (by omega)
    have d2 : decide ((y : Int) ≤ 54) = false := decide_eq_false (by omega)
    have KK := fun u => isKind_calls ((y : Int) - 48) u
    simp only [(rgB_not 1 6 ((y : Int) - 48)).2 (by omega)] at KK
    have KK := Lib.hid KK
    clear hx hy h1
    go_enter Tryd.func19, Tryd.ntmps19
    go_wp2_with fail
    refine (KK.out _).mono ?_
    rintro e w' ⟨rfl, rfl⟩
    go_wp2_with fail
    go_ret
    exact ⟨rfl, rfl⟩
  | sharp y h hx hy h1 h2 hz =>
    have d0 : decide ((2 : Int) < s.size) = true := decide_eq_true (by omega)
    have c0 := bt_cell s 0 (by omega) hx
    have c1 := bt_cell s 1 (by omega) hy
    have c2 := bt_cell s 2 (by omega) hz
    have y256 : y < 256 := by rw [← hy]; exact bt_lt s 1
    have d1 : decide ((49 : Int) ≤ y) = true := decide_eq_true (by omega)
    have d2 : decide ((y : Int) ≤ 54) = true := decide_eq_true (by omega)
    have KK := fun u => isKind_calls ((y : Int) - 48) u
    simp only [(rgB_iff 1 6 ((y : Int) - 48)).2 (by omega)] at KK
    have KK := Lib.hid KK
    clear hx hy hz
    go_enter Tryd.func19, Tryd.ntmps19
    go_wp2_with fail
    refine (KK.out _).mono ?_
    rintro e w' ⟨rfl, rfl⟩
    go_wp2_with fail
    go_ret
    exact ⟨rfl, rfl⟩
  | blank y z h hx hy h1 h2 hz h3 h4 =>
    have d0 : decide ((2 : Int) < s.size) = true := decide_eq_true (by omega)
    have c0 := bt_cell s 0 (by omega) hx
    have c1 := bt_cell s 1 (by omega) hy
    have c2 := bt_cell s 2 (by omega) hz
    have y256 : y < 256 := by rw [← hy]; exact bt_lt s 1
    have z256 : z < 256 := by rw [← hz]; exact bt_lt s 2
    have d1 : decide ((49 : Int) ≤ y) = true := decide_eq_true (by omega)
    have d2 : decide ((y : Int) ≤ 54) = true := decide_eq_true (by omega)
    have e2 : ((z : Int) == 35) = false := by rw [beq_eq_false_iff_ne]; omega
    have KK := fun u => isKind_calls ((y : Int) - 48) u
    simp only [(rgB_iff 1 6 ((y : Int) - 48)).2 (by omega)] at KK
    have KK := Lib.hid KK
    have KB := fun u => blank_calls z u
    simp only [h4] at KB
    have KB := Lib.hid KB
    clear h4
    clear hx hy hz h3
    go_enter Tryd.func19, Tryd.ntmps19
    go_wp2_with fail
    refine (KK.out _).mono ?_
    rintro e w' ⟨rfl, rfl⟩
    go_wp2_with fail
    refine (KB.out _).mono ?_
    rintro e w' ⟨rfl, rfl⟩
    go_wp2_with fail
    go_ret
    exact ⟨rfl, rfl⟩
  | other y z h hx hy h1 h2 hz h3 h4 =>
    have d0 : decide ((2 : Int) < s.size) = true := decide_eq_true (by omega)
    have c0 := bt_cell s 0 (by omega) hx
    have c1 := bt_cell s 1 (by omega) hy
    have c2 := bt_cell s 2 (by omega) hz
    have y256 : y < 256 := by rw [← hy]; exact bt_lt s 1
    have z256 : z < 256 := by rw [← hz]; exact bt_lt s 2
    have d1 : decide ((49 : Int) ≤ y) = true := decide_eq_true (by omega)
    have d2 : decide ((y : Int) ≤ 54) = true := decide_eq_true (by omega)
    have e2 : ((z : Int) == 35) = false := by rw [beq_eq_false_iff_ne]; omega
    have KK := fun u => isKind_calls ((y : Int) - 48) u
    simp only [(rgB_iff 1 6 ((y : Int) - 48)).2 (by omega)] at KK
    have KK := Lib.hid KK
    have KB := fun u => blank_calls z u
    simp only [h4] at KB
    have KB := Lib.hid KB
    clear h4
    clear hx hy hz h3
    go_enter Tryd.func19, Tryd.ntmps19
    go_wp2_with fail
    refine (KK.out _).mono ?_
    rintro e w' ⟨rfl, rfl⟩
    go_wp2_with fail
    refine (KB.out _).mono ?_
    rintro e w' ⟨rfl, rfl⟩
    go_wp2_with fail
    go_ret
    exact ⟨rfl, rfl⟩


theorem head_at (s : ByteArray) (n : Nat) (h : n ≤ s.size) (w : World) :
    (Instr.slice 9 (.string s) none (some (.int .i64 (n : Int))) none).run Tryd.prog w = .ok (.string (s.extract 0 n)) w := by
  have ht' : Tryd.prog.underlying 9 = some .string := by kernel_rfl
  simp [Instr.slice, run_underlying ht', Instr.sliceBounds, run_sliceBound, Result.andThen, h]

def icB (s : ByteArray) : Bool := decide (10 ≤ s.size) && (!(wrB s) && decide (bn s 9 = 0))
theorem wr_ext (s : ByteArray) (h : 6 ≤ s.size) : wrB (s.extract 0 6) = wrB s := by
  unfold wrB
  rw [w2_ext s 0 6 0 h (by omega), w2_ext s 0 6 2 h (by omega), w2_ext s 0 6 4 h (by omega)]
set_option maxRecDepth 100000 in
theorem ic_calls (s : ByteArray) (hbg : s.size ≤ 9223372036854775807) (W : World) :
    Calls Tryd.prog 20 #[.string s] W fun e w' => e = .returned (.bool (icB s)) ∧ W = w' := by
  unfold icB
  by_cases h10 : 10 ≤ s.size
  · rw [decide_eq_true h10, Bool.true_and]
    have hz : (s.extract 0 6).size = 6 := by rw [ByteArray.size_extract]; omega
    have KW := fun u => wrong_calls (s.extract 0 6) hz u
    rw [wr_ext s (by omega)] at KW
    have HC := fun w => head_at s 6 (by omega) w
    have l9 : 9 < s.size := by omega
    have i9 : (9 : Int) < (s.size : Int) := by omega
    have j9 : (s[9]'l9).toNat = bn s 9 := bn_at s 9 l9
    have n10 : ¬ (s.size : Int) < 10 := by omega
    obtain ⟨z, hz2⟩ : ∃ z, s.extract 0 6 = z := ⟨_, rfl⟩
    rw [hz2] at KW HC
    obtain ⟨P, hP⟩ : ∃ P, wrP z = P := ⟨_, rfl⟩
    obtain ⟨B, hB⟩ : ∃ B, wrB s = B := ⟨_, rfl⟩
    obtain ⟨n, hn⟩ : ∃ n, bn s 9 = n := ⟨_, rfl⟩
    rw [hP, hB] at KW
    rw [hB, hn]
    rw [hn] at j9
    have KW := Lib.hid KW
    clear hP hB hn hz hz2 h10
    have HC6 : ∀ w, (Instr.slice 9 (.string s) none (some (.int .i64 6)) none).run Tryd.prog w = .ok (.string z) w := HC
    clear HC
    cases B with
    | true =>
      go_enter Tryd.func20, Tryd.ntmps20
      go_wp2_with fail
      refine (KW.out _).mono ?_
      rintro e w' ⟨rfl, rfl⟩
      go_wp2
      go_ret
      exact ⟨rfl, rfl⟩
    | false =>
      by_cases h0 : n = 0
      · have f : (((n : Nat) : Int) == 0) = true := by rw [beq_iff_eq]; omega
        rw [decide_eq_true h0]
        subst h0
        go_enter Tryd.func20, Tryd.ntmps20
        go_wp2_with fail
        refine (KW.out _).mono ?_
        rintro e w' ⟨rfl, rfl⟩
        go_wp2
        go_ret
        exact ⟨rfl, rfl⟩
      · have f : (((n : Nat) : Int) == 0) = false := by rw [beq_eq_false_iff_ne]; omega
        have f2 : ¬ ((n : Nat) : Int) = 0 := by omega
        rw [decide_eq_false h0]
        go_enter Tryd.func20, Tryd.ntmps20
        go_wp2_with fail
        refine (KW.out _).mono ?_
        rintro e w' ⟨rfl, rfl⟩
        go_wp2
        go_ret
        exact ⟨rfl, rfl⟩
  · rw [decide_eq_false h10, Bool.false_and]
    have n10 : (s.size : Int) < 10 := by omega
    go_enter Tryd.func20, Tryd.ntmps20
    go_wp2
    go_ret
    exact ⟨rfl, rfl⟩

/-- The example's entries, and their bytes. -/
def verB (y : Nat) : Bool := decide (y = 0 ∨ y = 2 ∨ y = 3 ∨ y = 4 ∨ y = 5)
theorem ver_calls (y : Nat) (W : World) : Calls Tryd.prog 36 #[.int .u8 y] W fun e w' => e = .returned (.bool (verB y)) ∧ W = w' := by
  by_cases h : y = 0 ∨ y = 2 ∨ y = 3 ∨ y = 4 ∨ y = 5
  · rw [show verB y = true from decide_eq_true h]
    rcases h with rfl | rfl | rfl | rfl | rfl
    all_goals
      go_enter Tryd.func36, Tryd.ntmps36
      go_wp2
      go_ret
      exact ⟨rfl, rfl⟩
  · rw [show verB y = false from decide_eq_false h]
    have d0 : ((y : Int) == 0) = false := by rw [beq_eq_false_iff_ne]; omega
    have d2 : ((y : Int) == 2) = false := by rw [beq_eq_false_iff_ne]; omega
    have d3 : ((y : Int) == 3) = false := by rw [beq_eq_false_iff_ne]; omega
    have d4 : ((y : Int) == 4) = false := by rw [beq_eq_false_iff_ne]; omega
    have d5 : ((y : Int) == 5) = false := by rw [beq_eq_false_iff_ne]; omega
    clear h
    go_enter Tryd.func36, Tryd.ntmps36
    go_wp2
    go_ret
    exact ⟨rfl, rfl⟩

theorem rver_calls (y : Nat) (W : World) : Calls Tryd.prog 27 #[.int .u8 y] W fun e w' => e = .returned (.bool (verB y)) ∧ W = w' := by
  by_cases h : y = 0 ∨ y = 2 ∨ y = 3 ∨ y = 4 ∨ y = 5
  · rw [show verB y = true from decide_eq_true h]
    rcases h with rfl | rfl | rfl | rfl | rfl
    all_goals
      go_enter Tryd.func27, Tryd.ntmps27
      go_wp2
      go_ret
      exact ⟨rfl, rfl⟩
  · rw [show verB y = false from decide_eq_false h]
    have d0 : ((y : Int) == 0) = false := by rw [beq_eq_false_iff_ne]; omega
    have d2 : ((y : Int) == 2) = false := by rw [beq_eq_false_iff_ne]; omega
    have d3 : ((y : Int) == 3) = false := by rw [beq_eq_false_iff_ne]; omega
    have d4 : ((y : Int) == 4) = false := by rw [beq_eq_false_iff_ne]; omega
    have d5 : ((y : Int) == 5) = false := by rw [beq_eq_false_iff_ne]; omega
    clear h
    go_enter Tryd.func27, Tryd.ntmps27
    go_wp2
    go_ret
    exact ⟨rfl, rfl⟩

/-- Is a text a PCX file's beginning? -/
inductive Pb (s : ByteArray) : Bool → Prop
  | short (h : s.size < 4) : Pb s false
  | m (x : Nat) (h : 4 ≤ s.size) (h0 : bt s 0 = x) (n0 : x ≠ 10) : Pb s false
  | v (y : Nat) (h : 4 ≤ s.size) (h0 : bt s 0 = 10) (h1 : bt s 1 = y) (n1 : verB y = false) : Pb s false
  | p (y z : Nat) (h : 4 ≤ s.size) (h0 : bt s 0 = 10) (h1 : bt s 1 = y) (n1 : verB y = true) (h2 : bt s 2 = z) (n2 : z ≠ 1) : Pb s false
  | b (y q : Nat) (h : 4 ≤ s.size) (h0 : bt s 0 = 10) (h1 : bt s 1 = y) (n1 : verB y = true) (h2 : bt s 2 = 1) (h3 : bt s 3 = q) (n3 : q ≠ 1) (n4 : q ≠ 8) : Pb s false
  | one (y : Nat) (h : 4 ≤ s.size) (h0 : bt s 0 = 10) (h1 : bt s 1 = y) (n1 : verB y = true) (h2 : bt s 2 = 1) (h3 : bt s 3 = 1) : Pb s true
  | eight (y : Nat) (h : 4 ≤ s.size) (h0 : bt s 0 = 10) (h1 : bt s 1 = y) (n1 : verB y = true) (h2 : bt s 2 = 1) (h3 : bt s 3 = 8) : Pb s true
theorem pb_of (s : ByteArray) : ∃ b, Pb s b := by
  by_cases h : s.size < 4
  · exact ⟨_, .short h⟩
  · have h4 : 4 ≤ s.size := by omega
    by_cases h0 : bt s 0 = 10
    · cases h1 : verB (bt s 1) with
      | false => exact ⟨_, .v _ h4 h0 rfl h1⟩
      | true =>
        by_cases h2 : bt s 2 = 1
        · by_cases h3 : bt s 3 = 1
          · exact ⟨_, .one _ h4 h0 rfl h1 h2 h3⟩
          · by_cases h8 : bt s 3 = 8
            · exact ⟨_, .eight _ h4 h0 rfl h1 h2 h8⟩
            · exact ⟨_, .b _ _ h4 h0 rfl h1 h2 rfl h3 h8⟩
        · exact ⟨_, .p _ _ h4 h0 rfl h1 rfl h2⟩
    · exact ⟨_, .m _ h4 rfl h0⟩

set_option maxRecDepth 100000 in
set_option maxHeartbeats 4000000 in
theorem pc_calls (s : ByteArray) (b : Bool) (W : World) (hs : s.size ≤ 9223372036854775807) (hb : Pb s b) : Calls Tryd.prog 23 #[.string s] W fun e w' => e = .returned (.bool b) ∧ W = w' := by
  cases hb with
  | short h =>
    have d0 : decide ((4 : Int) ≤ (s.size : Int)) = false := decide_eq_false (by omega)
    have d0' : (s.size : Int) < 4 := by omega
    have d0x : ¬ (4 : Int) ≤ (s.size : Int) := by omega
    go_enter Tryd.func23, Tryd.ntmps23
    go_wp2_with fail
    go_ret
    exact ⟨rfl, rfl⟩
  | m x h h0 n0 =>
    have d0 : decide ((4 : Int) ≤ (s.size : Int)) = true := decide_eq_true (by omega)
    have d0' : ¬ (s.size : Int) < 4 := by omega
    have d0x : (4 : Int) ≤ (s.size : Int) := by omega
    have c0 := bt_cell s 0 (by omega) h0
    have e1 : ((x : Int) == 10) = false := by rw [beq_eq_false_iff_ne]; omega
    have e1' : ¬ (x : Int) = 10 := by omega
    clear h0 n0
    go_enter Tryd.func23, Tryd.ntmps23
    go_wp2_with fail
    go_ret
    exact ⟨rfl, rfl⟩
  | v y h h0 h1 n1 =>
    have d0 : decide ((4 : Int) ≤ (s.size : Int)) = true := decide_eq_true (by omega)
    have d0' : ¬ (s.size : Int) < 4 := by omega
    have d0x : (4 : Int) ≤ (s.size : Int) := by omega
    have c0 := bt_cell s 0 (by omega) h0
    have c1 := bt_cell s 1 (by omega) h1
    have KV := fun u => ver_calls y u
    simp only [n1] at KV
    have KV := Lib.hid KV
    clear n1 h1
    clear h0
    go_enter Tryd.func23, Tryd.ntmps23
    go_wp2_with fail
    refine (KV.out _).mono ?_
    rintro e w' ⟨rfl, rfl⟩
    go_wp2_with fail
    go_ret
    exact ⟨rfl, rfl⟩
  | p y z h h0 h1 n1 h2 n2 =>
    have d0 : decide ((4 : Int) ≤ (s.size : Int)) = true := decide_eq_true (by omega)
    have d0' : ¬ (s.size : Int) < 4 := by omega
    have d0x : (4 : Int) ≤ (s.size : Int) := by omega
    have c0 := bt_cell s 0 (by omega) h0
    have c1 := bt_cell s 1 (by omega) h1
    have c2 := bt_cell s 2 (by omega) h2
    have KV := fun u => ver_calls y u
    simp only [n1] at KV
    have KV := Lib.hid KV
    clear n1 h1
    have e2 : ((z : Int) == 1) = false := by rw [beq_eq_false_iff_ne]; omega
    have e2' : ¬ (z : Int) = 1 := by omega
    clear h0 h2 n2
    go_enter Tryd.func23, Tryd.ntmps23
    go_wp2_with fail
    refine (KV.out _).mono ?_
    rintro e w' ⟨rfl, rfl⟩
    go_wp2_with fail
    go_ret
    exact ⟨rfl, rfl⟩
  | b y q h h0 h1 n1 h2 h3 n3 n4 =>
    have d0 : decide ((4 : Int) ≤ (s.size : Int)) = true := decide_eq_true (by omega)
    have d0' : ¬ (s.size : Int) < 4 := by omega
    have d0x : (4 : Int) ≤ (s.size : Int) := by omega
    have c0 := bt_cell s 0 (by omega) h0
    have c1 := bt_cell s 1 (by omega) h1
    have c2 := bt_cell s 2 (by omega) h2
    have c3 := bt_cell s 3 (by omega) h3
    have KV := fun u => ver_calls y u
    simp only [n1] at KV
    have KV := Lib.hid KV
    clear n1 h1
    have e3 : ((q : Int) == 1) = false := by rw [beq_eq_false_iff_ne]; omega
    have e3' : ¬ (q : Int) = 1 := by omega
    have e4 : ((q : Int) == 8) = false := by rw [beq_eq_false_iff_ne]; omega
    have e4' : ¬ (q : Int) = 8 := by omega
    clear h0 h2 h3 n3 n4
    go_enter Tryd.func23, Tryd.ntmps23
    go_wp2_with fail
    refine (KV.out _).mono ?_
    rintro e w' ⟨rfl, rfl⟩
    go_wp2_with fail
    go_ret
    exact ⟨rfl, rfl⟩
  | one y h h0 h1 n1 h2 h3 =>
    have d0 : decide ((4 : Int) ≤ (s.size : Int)) = true := decide_eq_true (by omega)
    have d0' : ¬ (s.size : Int) < 4 := by omega
    have d0x : (4 : Int) ≤ (s.size : Int) := by omega
    have c0 := bt_cell s 0 (by omega) h0
    have c1 := bt_cell s 1 (by omega) h1
    have c2 := bt_cell s 2 (by omega) h2
    have c3 := bt_cell s 3 (by omega) h3
    have KV := fun u => ver_calls y u
    simp only [n1] at KV
    have KV := Lib.hid KV
    clear n1 h1
    clear h0 h2 h3
    go_enter Tryd.func23, Tryd.ntmps23
    go_wp2_with fail
    refine (KV.out _).mono ?_
    rintro e w' ⟨rfl, rfl⟩
    go_wp2_with fail
    go_ret
    exact ⟨rfl, rfl⟩
  | eight y h h0 h1 n1 h2 h3 =>
    have d0 : decide ((4 : Int) ≤ (s.size : Int)) = true := decide_eq_true (by omega)
    have d0' : ¬ (s.size : Int) < 4 := by omega
    have d0x : (4 : Int) ≤ (s.size : Int) := by omega
    have c0 := bt_cell s 0 (by omega) h0
    have c1 := bt_cell s 1 (by omega) h1
    have c2 := bt_cell s 2 (by omega) h2
    have c3 := bt_cell s 3 (by omega) h3
    have KV := fun u => ver_calls y u
    simp only [n1] at KV
    have KV := Lib.hid KV
    clear n1 h1
    clear h0 h2 h3
    go_enter Tryd.func23, Tryd.ntmps23
    go_wp2_with fail
    refine (KV.out _).mono ?_
    rintro e w' ⟨rfl, rfl⟩
    go_wp2_with fail
    go_ret
    exact ⟨rfl, rfl⟩

theorem tg_short (s : ByteArray) (h : s.size < 18) (W : World) : Calls Tryd.prog 18 #[.string s] W fun e w' => e = .returned (.bool false) ∧ W.grownBy w' none := by
  have d0 : decide ((s.size : Int) < 18) = true := decide_eq_true (by omega)
  have d0' : (s.size : Int) < 18 := by omega
  go_enter Tryd.func18, Tryd.ntmps18
  go_wp2
  go_ret
  exact ⟨rfl, grf _ _⟩

/-- Has a text the sign of a format? (A TGA file's sign is handed in: b2.) -/
structure Hs (s : ByteArray) (B : Nat → Bool) : Prop where
  b1 : B 1 = isB ⟨#[66, 77]⟩ s
  b2 : ∀ u : World, Calls Tryd.prog 18 #[.string s] u fun e w' => e = .returned (.bool (B 2)) ∧ u.grownBy w' none
  b3 : Beg s (B 3)
  b4 : B 4 = icB s
  b5 : B 5 = isB qoS s
  b6 : B 6 = isB ffS s
  b7 : Pb s (B 7)
  b8 : B 8 = isB suS s

theorem has_1 (s : ByteArray) (B : Nat → Bool) (H : Hs s B) (hs : s.size ≤ 9223372036854775807) (W : World) : Calls Tryd.prog 11 #[.string s, .int .i64 1] W fun e w' => e = .returned (.bool (B 1)) ∧ W.grownBy w' none := by
  have K := fun u => prefix_calls s ⟨#[66, 77]⟩ u
  rw [← H.b1] at K
  obtain ⟨b, hb⟩ : ∃ b, B 1 = b := ⟨_, rfl⟩
  rw [hb] at K ⊢
  have K := Lib.hid K
  clear hb H
  go_enter Tryd.func11, Tryd.ntmps11
  go_wp2_with fail
  refine (K.out _).mono ?_
  rintro e w' ⟨rfl, rfl⟩
  go_wp2
  go_ret
  exact ⟨rfl, grf _ _⟩
theorem has_2 (s : ByteArray) (B : Nat → Bool) (H : Hs s B) (hs : s.size ≤ 9223372036854775807) (W : World) : Calls Tryd.prog 11 #[.string s, .int .i64 2] W fun e w' => e = .returned (.bool (B 2)) ∧ W.grownBy w' none := by
  have K := H.b2
  obtain ⟨b, hb⟩ : ∃ b, B 2 = b := ⟨_, rfl⟩
  rw [hb] at K ⊢
  have K := Lib.hid K
  clear hb H
  go_enter Tryd.func11, Tryd.ntmps11
  go_wp2_with fail
  refine (K.out _).mono ?_
  rintro e w' ⟨rfl, g⟩
  go_wp2
  go_ret
  exact ⟨rfl, g⟩
theorem has_3 (s : ByteArray) (B : Nat → Bool) (H : Hs s B) (hs : s.size ≤ 9223372036854775807) (W : World) : Calls Tryd.prog 11 #[.string s, .int .i64 3] W fun e w' => e = .returned (.bool (B 3)) ∧ W.grownBy w' none := by
  have K := fun u => pn_calls s _ u hs H.b3
  obtain ⟨b, hb⟩ : ∃ b, B 3 = b := ⟨_, rfl⟩
  rw [hb] at K ⊢
  have K := Lib.hid K
  clear hb H
  go_enter Tryd.func11, Tryd.ntmps11
  go_wp2_with fail
  refine (K.out _).mono ?_
  rintro e w' ⟨rfl, rfl⟩
  go_wp2
  go_ret
  exact ⟨rfl, grf _ _⟩
theorem has_4 (s : ByteArray) (B : Nat → Bool) (H : Hs s B) (hs : s.size ≤ 9223372036854775807) (W : World) : Calls Tryd.prog 11 #[.string s, .int .i64 4] W fun e w' => e = .returned (.bool (B 4)) ∧ W.grownBy w' none := by
  have K := fun u => ic_calls s hs u
  rw [← H.b4] at K
  obtain ⟨b, hb⟩ : ∃ b, B 4 = b := ⟨_, rfl⟩
  rw [hb] at K ⊢
  have K := Lib.hid K
  clear hb H
  go_enter Tryd.func11, Tryd.ntmps11
  go_wp2_with fail
  refine (K.out _).mono ?_
  rintro e w' ⟨rfl, rfl⟩
  go_wp2
  go_ret
  exact ⟨rfl, grf _ _⟩
theorem has_5 (s : ByteArray) (B : Nat → Bool) (H : Hs s B) (hs : s.size ≤ 9223372036854775807) (W : World) : Calls Tryd.prog 11 #[.string s, .int .i64 5] W fun e w' => e = .returned (.bool (B 5)) ∧ W.grownBy w' none := by
  have K := fun u => qo_calls s u
  rw [← H.b5] at K
  obtain ⟨b, hb⟩ : ∃ b, B 5 = b := ⟨_, rfl⟩
  rw [hb] at K ⊢
  have K := Lib.hid K
  clear hb H
  go_enter Tryd.func11, Tryd.ntmps11
  go_wp2_with fail
  refine (K.out _).mono ?_
  rintro e w' ⟨rfl, rfl⟩
  go_wp2
  go_ret
  exact ⟨rfl, grf _ _⟩
theorem has_6 (s : ByteArray) (B : Nat → Bool) (H : Hs s B) (hs : s.size ≤ 9223372036854775807) (W : World) : Calls Tryd.prog 11 #[.string s, .int .i64 6] W fun e w' => e = .returned (.bool (B 6)) ∧ W.grownBy w' none := by
  have K := fun u => ff_calls s u
  rw [← H.b6] at K
  obtain ⟨b, hb⟩ : ∃ b, B 6 = b := ⟨_, rfl⟩
  rw [hb] at K ⊢
  have K := Lib.hid K
  clear hb H
  go_enter Tryd.func11, Tryd.ntmps11
  go_wp2_with fail
  refine (K.out _).mono ?_
  rintro e w' ⟨rfl, rfl⟩
  go_wp2
  go_ret
  exact ⟨rfl, grf _ _⟩
theorem has_7 (s : ByteArray) (B : Nat → Bool) (H : Hs s B) (hs : s.size ≤ 9223372036854775807) (W : World) : Calls Tryd.prog 11 #[.string s, .int .i64 7] W fun e w' => e = .returned (.bool (B 7)) ∧ W.grownBy w' none := by
  have K := fun u => pc_calls s _ u hs H.b7
  obtain ⟨b, hb⟩ : ∃ b, B 7 = b := ⟨_, rfl⟩
  rw [hb] at K ⊢
  have K := Lib.hid K
  clear hb H
  go_enter Tryd.func11, Tryd.ntmps11
  go_wp2_with fail
  refine (K.out _).mono ?_
  rintro e w' ⟨rfl, rfl⟩
  go_wp2
  go_ret
  exact ⟨rfl, grf _ _⟩
theorem has_8 (s : ByteArray) (B : Nat → Bool) (H : Hs s B) (hs : s.size ≤ 9223372036854775807) (W : World) : Calls Tryd.prog 11 #[.string s, .int .i64 8] W fun e w' => e = .returned (.bool (B 8)) ∧ W.grownBy w' none := by
  have K := fun u => su_calls s u
  rw [← H.b8] at K
  obtain ⟨b, hb⟩ : ∃ b, B 8 = b := ⟨_, rfl⟩
  rw [hb] at K ⊢
  have K := Lib.hid K
  clear hb H
  go_enter Tryd.func11, Tryd.ntmps11
  go_wp2_with fail
  refine (K.out _).mono ?_
  rintro e w' ⟨rfl, rfl⟩
  go_wp2
  go_ret
  exact ⟨rfl, grf _ _⟩

theorem has_none (s : ByteArray) (f : Int) (h : f < 1 ∨ 8 < f) (W : World) : Calls Tryd.prog 11 #[.string s, .int .i64 f] W fun e w' => e = .returned (.bool false) ∧ W.grownBy w' none := by
  have d1 : (f == 1) = false := by rw [beq_eq_false_iff_ne]; omega
  have n1 : ¬ f = 1 := by omega
  have d2 : (f == 2) = false := by rw [beq_eq_false_iff_ne]; omega
  have n2 : ¬ f = 2 := by omega
  have d3 : (f == 3) = false := by rw [beq_eq_false_iff_ne]; omega
  have n3 : ¬ f = 3 := by omega
  have d4 : (f == 4) = false := by rw [beq_eq_false_iff_ne]; omega
  have n4 : ¬ f = 4 := by omega
  have d5 : (f == 5) = false := by rw [beq_eq_false_iff_ne]; omega
  have n5 : ¬ f = 5 := by omega
  have d6 : (f == 6) = false := by rw [beq_eq_false_iff_ne]; omega
  have n6 : ¬ f = 6 := by omega
  have d7 : (f == 7) = false := by rw [beq_eq_false_iff_ne]; omega
  have n7 : ¬ f = 7 := by omega
  have d8 : (f == 8) = false := by rw [beq_eq_false_iff_ne]; omega
  have n8 : ¬ f = 8 := by omega
  clear h
  go_enter Tryd.func11, Tryd.ntmps11
  go_wp2
  go_ret
  exact ⟨rfl, grf _ _⟩

end Go.Proofs.YtibbebglbcjnmaaDoor.Sn
