/- Layer 16, pure: what a head's bytes tell, and what is wrong with them; the code's small tests. -/
import Derived.Test.YtibbebglbcjnmaaDoorSrcA
import Derived.Deep.LoopGhost
namespace Go.Proofs.YtibbebglbcjnmaaDoor.Tg
open Go.ChangeShapes Go.WideShapes Go.ChangeAt Go.RowKit
open Go.Proofs.YtibbebglbcjnmaaDoor.Le Go.Proofs.YtibbebglbcjnmaaDoor.Sr
set_option linter.unusedVariables false

/-- Byte i of a text, as a number. -/
def bn (s : ByteArray) (i : Nat) : Nat := (s.data.toList.getD i 0).toNat
theorem bn_at (s : ByteArray) (k : Nat) (h : k < s.size) : (s[k]'h).toNat = bn s k := by
  have h1 := Go.Proofs.byte_at s k h
  unfold bn
  rw [List.getD_eq_getElem?_getD, h1]
  rfl
theorem bn_lt (s : ByteArray) (k : Nat) : bn s k < 256 := UInt8.toNat_lt _
theorem bn_cell (s : ByteArray) (k : Nat) (h : k < s.size) {c : Nat} (e : bn s k = c) : ((s[k]'h).toNat : Int) = (c : Int) := by rw [bn_at, e]
/-- Two bytes, the lowest first. -/
def wd (s : ByteArray) (i : Nat) : Nat := bn s i + 256 * bn s (i + 1)
theorem wd_lt (s : ByteArray) (i : Nat) : wd s i < 65536 := by
  have h1 := bn_lt s i
  have h2 := bn_lt s (i + 1)
  unfold wd
  omega

def colB (n : Nat) : Bool := decide (n = 15 ∨ n = 16 ∨ n = 24 ∨ n = 32)
def pln (t : Nat) : Nat := if 9 ≤ t ∧ t ≤ 11 then t - 8 else t
def typB (t : Nat) : Bool := decide (1 ≤ pln t ∧ pln t ≤ 3)
def dpB (d t : Nat) : Bool := if pln t = 2 then colB d else decide (d = 8)
def alB (a d : Nat) : Bool := decide (a = 0 ∨ (d = 16 ∧ a = 1) ∨ (d = 32 ∧ a = 8))
def mpB (s : ByteArray) : Bool := decide (bn s 1 = 1)

/-- Is check number k what is wrong? -/
def ck (s : ByteArray) : Nat → Bool
  | 0 => decide (1 < bn s 1)
  | 1 => !(typB (bn s 2))
  | 2 => decide (pln (bn s 2) = 1) && !(mpB s)
  | 3 => mpB s && !(colB (bn s 7))
  | 4 => mpB s && decide (wd s 5 = 0)
  | 5 => decide (wd s 12 = 0)
  | 6 => decide (16384 < wd s 12)
  | 7 => decide (wd s 14 = 0)
  | 8 => decide (16384 < wd s 14)
  | 9 => !(dpB (bn s 16) (bn s 2))
  | 10 => decide (64 ≤ bn s 17)
  | 11 => !(alB (bn s 17 % 16) (bn s 16))
  | _ => true
def kdK : Nat → Int
  | 0 => 2 | 1 => 3 | 2 => 2 | 3 => 3 | 4 => 2 | 5 => 2 | 6 => 3 | 7 => 2 | 8 => 3 | 9 => 3 | 10 => 3 | 11 => 2 | _ => 0
def plK : Nat → Int
  | 0 => 1 | 1 => 2 | 2 => 1 | 3 => 7 | 4 => 5 | 5 => 12 | 6 => 12 | 7 => 14 | 8 => 14 | 9 => 16 | 10 => 17 | 11 => 17 | _ => 0
/-- K is the first check that tells something; 12: there is none. -/
structure Ck (s : ByteArray) (K : Nat) : Prop where
  le : K ≤ 12
  yes : ck s K = true
  no : ∀ j, j < K → ck s j = false
theorem ck_first (s : ByteArray) : ∀ n, n ≤ 12 → (∀ j, j < 12 - n → ck s j = false) → ∃ K, Ck s K
  | 0, _, h => ⟨12, Nat.le_refl _, rfl, h⟩
  | n + 1, hn, h => by
    cases hk : ck s (12 - (n + 1)) with
    | true => exact ⟨12 - (n + 1), by omega, hk, h⟩
    | false => exact ck_first s n (by omega) (fun j hj => by
        by_cases e : j = 12 - (n + 1)
        · rw [e]; exact hk
        · exact h j (by omega))
theorem ck_ex (s : ByteArray) : ∃ K, Ck s K := ck_first s 12 (Nat.le_refl _) (fun j hj => absurd hj (by omega))

/-- A head's fields, as the code has them. -/
def fst (s : ByteArray) : Nat := if mpB s then wd s 3 else 0
def cnt (s : ByteArray) : Nat := if mpB s then wd s 5 else 0
def ent (s : ByteArray) : Nat := if mpB s then bn s 7 else 0
def alp (s : ByteArray) : Nat := bn s 17 % 16
def lft (s : ByteArray) : Bool := decide (bn s 17 / 16 % 2 = 1)
def tpp (s : ByteArray) : Bool := decide (bn s 17 / 32 % 2 = 1)
def hA (s : ByteArray) : Array Value := #[.int .i64 (bn s 0), .bool (mpB s), .int .i64 (bn s 2), .int .i64 (fst s), .int .i64 (cnt s), .int .i64 (ent s), .int .i64 (wd s 12), .int .i64 (wd s 14), .int .i64 (bn s 16), .int .i64 (alp s), .bool (lft s), .bool (tpp s)]

theorem packed_calls (k : Int) (W : World) : Calls Tryd.prog 59 #[.int .i64 k] W fun e w' => e = .returned (.bool (decide (9 ≤ k) && decide (k ≤ 11))) ∧ W = w' := by
  by_cases h : 9 ≤ k
  · rw [show (decide (9 ≤ k) && decide (k ≤ 11)) = decide (k ≤ 11) from by simp [h]]
    go_enter Tryd.func59, Tryd.ntmps59
    go_wp2
    go_ret
    exact ⟨rfl, rfl⟩
  · rw [show (decide (9 ≤ k) && decide (k ≤ 11)) = false from by simp [h]]
    have h' : k < 9 := by omega
    clear h
    go_enter Tryd.func59, Tryd.ntmps59
    go_wp2
    go_ret
    exact ⟨rfl, rfl⟩

theorem plain_calls (t : Nat) (ht : t < 256) (W : World) : Calls Tryd.prog 44 #[.int .i64 t] W fun e w' => e = .returned (.int .i64 (pln t)) ∧ W = w' := by
  have K := fun u => packed_calls (t : Int) u
  by_cases h : 9 ≤ t ∧ t ≤ 11
  · have e : (decide ((9 : Int) ≤ t) && decide ((t : Int) ≤ 11)) = true := by simp; omega
    rw [e] at K
    rw [show ((pln t : Nat) : Int) = (t : Int) - 8 from by unfold pln; rw [if_pos h]; omega]
    have HK := Lib.hid K
    clear K e
    go_enter Tryd.func44, Tryd.ntmps44
    go_wp2_with fail
    refine (HK.out _).mono ?_
    rintro e w' ⟨rfl, rfl⟩
    go_wp2
    go_ret
    exact ⟨by go_num, rfl⟩
  · have e : (decide ((9 : Int) ≤ t) && decide ((t : Int) ≤ 11)) = false := by simp; omega
    rw [e] at K
    rw [show ((pln t : Nat) : Int) = (t : Int) from by unfold pln; rw [if_neg h]]
    have HK := Lib.hid K
    clear K e
    go_enter Tryd.func44, Tryd.ntmps44
    go_wp2_with fail
    refine (HK.out _).mono ?_
    rintro e w' ⟨rfl, rfl⟩
    go_wp2
    go_ret
    exact ⟨rfl, rfl⟩

theorem isType_calls (t : Nat) (ht : t < 256) (W : World) : Calls Tryd.prog 42 #[.int .i64 t] W fun e w' => e = .returned (.bool (typB t)) ∧ W = w' := by
  have K := Lib.hid (fun u => plain_calls t ht u)
  have e0 : typB t = (decide ((1 : Int) ≤ (pln t : Nat)) && decide (((pln t : Nat) : Int) ≤ 3)) := by
    unfold typB
    rw [Bool.eq_iff_iff]
    simp
    omega
  rw [e0]
  obtain ⟨x, hx⟩ : ∃ x, pln t = x := ⟨_, rfl⟩
  rw [hx] at K ⊢
  clear e0 hx
  by_cases h : (1 : Int) ≤ x
  · rw [show (decide ((1 : Int) ≤ x) && decide ((x : Int) ≤ 3)) = decide ((x : Int) ≤ 3) from by simp [h]]
    go_enter Tryd.func42, Tryd.ntmps42
    go_wp2_with fail
    refine (K.out _).mono ?_
    rintro e w' ⟨rfl, rfl⟩
    go_wp2_with fail
    refine (K.out _).mono ?_
    rintro e w' ⟨rfl, rfl⟩
    go_wp2
    go_ret
    exact ⟨rfl, rfl⟩
  · rw [show (decide ((1 : Int) ≤ x) && decide ((x : Int) ≤ 3)) = false from by simp [h]]
    have h' : (x : Int) < 1 := by omega
    clear h
    go_enter Tryd.func42, Tryd.ntmps42
    go_wp2_with fail
    refine (K.out _).mono ?_
    rintro e w' ⟨rfl, rfl⟩
    go_wp2
    go_ret
    exact ⟨rfl, rfl⟩

theorem isColor_calls (n : Nat) (W : World) : Calls Tryd.prog 46 #[.int .i64 n] W fun e w' => e = .returned (.bool (colB n)) ∧ W = w' := by
  by_cases h : n = 15 ∨ n = 16 ∨ n = 24 ∨ n = 32
  · rw [show colB n = true from by unfold colB; exact decide_eq_true h]
    obtain rfl | rfl | rfl | rfl := h
    all_goals
      go_enter Tryd.func46, Tryd.ntmps46
      go_wp2
      go_ret
      exact ⟨rfl, rfl⟩
  · rw [show colB n = false from by unfold colB; exact decide_eq_false h]
    have h1 : ((n : Int) == 15) = false := by rw [beq_eq_false_iff_ne]; omega
    have h2 : ((n : Int) == 16) = false := by rw [beq_eq_false_iff_ne]; omega
    have h3 : ((n : Int) == 24) = false := by rw [beq_eq_false_iff_ne]; omega
    have h4 : ((n : Int) == 32) = false := by rw [beq_eq_false_iff_ne]; omega
    clear h
    go_enter Tryd.func46, Tryd.ntmps46
    go_wp2
    go_ret
    exact ⟨rfl, rfl⟩

theorem rcolor_calls (n : Nat) (W : World) : Calls Tryd.prog 37 #[.int .i64 n] W fun e w' => e = .returned (.bool (colB n)) ∧ W = w' := by
  by_cases h : n = 15 ∨ n = 16 ∨ n = 24 ∨ n = 32
  · rw [show colB n = true from by unfold colB; exact decide_eq_true h]
    obtain rfl | rfl | rfl | rfl := h
    all_goals
      go_enter Tryd.func37, Tryd.ntmps37
      go_wp2
      go_ret
      exact ⟨rfl, rfl⟩
  · rw [show colB n = false from by unfold colB; exact decide_eq_false h]
    have h1 : ((n : Int) == 15) = false := by rw [beq_eq_false_iff_ne]; omega
    have h2 : ((n : Int) == 16) = false := by rw [beq_eq_false_iff_ne]; omega
    have h3 : ((n : Int) == 24) = false := by rw [beq_eq_false_iff_ne]; omega
    have h4 : ((n : Int) == 32) = false := by rw [beq_eq_false_iff_ne]; omega
    clear h
    go_enter Tryd.func37, Tryd.ntmps37
    go_wp2
    go_ret
    exact ⟨rfl, rfl⟩

theorem isDepth_calls (d t : Nat) (ht : t < 256) (W : World) : Calls Tryd.prog 53 #[.int .i64 d, .int .i64 t] W fun e w' => e = .returned (.bool (dpB d t)) ∧ W = w' := by
  have K := fun u => plain_calls t ht u
  have KC := Lib.hid (fun u => isColor_calls d u)
  unfold dpB
  obtain ⟨x, hx⟩ : ∃ x, pln t = x := ⟨_, rfl⟩
  rw [hx]
  simp only [hx] at K
  have HK := Lib.hid K
  clear K hx
  by_cases h : x = 2
  · subst h
    rw [if_pos rfl]
    go_enter Tryd.func53, Tryd.ntmps53
    go_wp2_with fail
    refine (HK.out _).mono ?_
    rintro e w' ⟨rfl, rfl⟩
    go_wp2_with fail
    refine (KC.out _).mono ?_
    rintro e w' ⟨rfl, rfl⟩
    go_wp2
    go_ret
    exact ⟨rfl, rfl⟩
  · rw [if_neg h]
    have h' : ((x : Int) == 2) = false := by rw [beq_eq_false_iff_ne]; omega
    have e : decide (d = 8) = ((d : Int) == 8) := by rw [Bool.eq_iff_iff]; simp; omega
    rw [e]
    clear h e
    go_enter Tryd.func53, Tryd.ntmps53
    go_wp2_with fail
    refine (HK.out _).mono ?_
    rintro e w' ⟨rfl, rfl⟩
    go_wp2
    go_ret
    exact ⟨rfl, rfl⟩

theorem isAlpha_calls (a d : Nat) (W : World) : Calls Tryd.prog 56 #[.int .i64 a, .int .i64 d] W fun e w' => e = .returned (.bool (alB a d)) ∧ W = w' := by
  by_cases h0 : a = 0
  · subst h0
    rw [show alB 0 d = true from by unfold alB; simp]
    go_enter Tryd.func56, Tryd.ntmps56
    go_wp2
    go_ret
    exact ⟨rfl, rfl⟩
  have d0 : ((a : Int) == 0) = false := by rw [beq_eq_false_iff_ne]; omega
  by_cases h1 : d = 16
  · subst h1
    rw [show alB a 16 = ((a : Int) == 1) from by unfold alB; rw [Bool.eq_iff_iff]; simp; omega]
    clear h0
    go_enter Tryd.func56, Tryd.ntmps56
    go_wp2
    go_ret
    exact ⟨rfl, rfl⟩
  have d1 : ((d : Int) == 16) = false := by rw [beq_eq_false_iff_ne]; omega
  by_cases h2 : d = 32
  · subst h2
    rw [show alB a 32 = ((a : Int) == 8) from by unfold alB; rw [Bool.eq_iff_iff]; simp; omega]
    clear h0 h1
    go_enter Tryd.func56, Tryd.ntmps56
    go_wp2
    go_ret
    exact ⟨rfl, rfl⟩
  have d2 : ((d : Int) == 32) = false := by rw [beq_eq_false_iff_ne]; omega
  rw [show alB a d = false from by unfold alB; apply decide_eq_false; omega]
  clear h0 h1 h2
  go_enter Tryd.func56, Tryd.ntmps56
  go_wp2
  go_ret
  exact ⟨rfl, rfl⟩

theorem or_high (a b : Nat) (ha : a < 256) (hb : b < 256) : bits .or .i64 (a : Int) ((b : Int) * 256) = (a : Int) + 256 * b := by
  have hn : a ||| (b * 256) = a + 256 * b := by
    have := Nat.shiftLeft_add_eq_or_of_lt (i := 8) (b := a) (by omega) b
    rw [Nat.or_comm, show b * 256 = b <<< 8 from by rw [Nat.shiftLeft_eq], ← this, Nat.shiftLeft_eq]
    omega
  have h1 : (BitVec.ofInt 64 (a : Int)).toNat = a := by
    rw [BitVec.ofInt_natCast, BitVec.toNat_ofNat]; exact Nat.mod_eq_of_lt (by omega)
  have h2 : (BitVec.ofInt 64 ((b * 256 : Nat) : Int)).toNat = b * 256 := by
    rw [BitVec.ofInt_natCast, BitVec.toNat_ofNat]; exact Nat.mod_eq_of_lt (by omega)
  have e : (b : Int) * 256 = ((b * 256 : Nat) : Int) := by omega
  rw [e]
  show IntKind.i64.wrap ((BitVec.ofInt 64 (a : Int) ||| BitVec.ofInt 64 ((b * 256 : Nat) : Int)).toNat : Int) = _
  rw [BitVec.toNat_or, h1, h2, hn, IntKind.wrap_i64]
  omega

set_option maxRecDepth 100000 in
theorem word_calls (s : ByteArray) (k a b : Nat) (W : World) (hk : k + 1 < s.size) (hm : s.size ≤ 9223372036854775807) (h0 : bn s k = a) (h1 : bn s (k + 1) = b) :
    Calls Tryd.prog 58 #[.string s, .int .i64 k] W fun e w' => e = .returned (.int .i64 ((a : Int) + 256 * b)) ∧ ∃ n, w' = W.drewN n := by
  have ha := bn_lt s k
  have hb := bn_lt s (k + 1)
  rw [h0] at ha
  rw [h1] at hb
  have hor := or_high a b ha hb
  have g0 : ((s[k]'(by omega)).toNat : Int) = (a : Int) := bn_cell s k (by omega) h0
  have g1 : ((s[k + 1]'(by omega)).toNat : Int) = (b : Int) := bn_cell s (k + 1) (by omega) h1
  obtain ⟨z, hz⟩ : ∃ z, (a : Int) + 256 * b = z := ⟨_, rfl⟩
  rw [hz] at hor ⊢
  have s1 : IntKind.i64.wrap ((b : Int) * 256) = (b : Int) * 256 := by rw [IntKind.wrap_i64]; omega
  clear h0 h1 hz
  go_enter Tryd.func58, Tryd.ntmps58
  go_wp2_with fail
  go_quiet (fail)
  go_wp2
  go_ret
  exact ⟨rfl, _, rfl⟩

end Go.Proofs.YtibbebglbcjnmaaDoor.Tg
