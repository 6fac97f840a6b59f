/- Layer 20, pure: what a head's bytes tell, and what is wrong with them; the small tests (written by wip/gen/dh1.py). -/
import Derived.Test.YtfhcefglefkakaaGreatDoorSrcA
import Derived.Deep.LoopGhost
namespace Go.Proofs.YtfhcefglefkakaaGreatDoor.Dh
open Go.ChangeShapes Go.WideShapes Go.ChangeAt Go.RowKit
open Go.Proofs.YtfhcefglefkakaaGreatDoor.Le Go.Proofs.YtfhcefglefkakaaGreatDoor.Sr
set_option linter.unusedVariables false

/-- Byte i of a text, as a number; two bytes, four bytes, the lowest first. -/
def bn (s : ByteArray) (i : Nat) : Nat := (s.data.toList.getD i 0).toNat
def w2 (s : ByteArray) (i : Nat) : Nat := bn s i + 256 * bn s (i + 1)
def w4 (s : ByteArray) (i : Nat) : Nat := bn s i + 256 * bn s (i + 1) + 65536 * bn s (i + 2) + 16777216 * bn s (i + 3)
theorem bn_at (s : ByteArray) (k : Nat) (h : k < s.size) : (s[k]'h).toNat = bn s k := by
  have h1 := Go.Proofs.byte_at s k h
  unfold bn
  rw [List.getD_eq_getElem?_getD, h1]
  rfl
theorem bn_lt (s : ByteArray) (k : Nat) : bn s k < 256 := UInt8.toNat_lt _
theorem w2_lt (s : ByteArray) (i : Nat) : w2 s i < 65536 := by
  have h1 := bn_lt s i
  have h2 := bn_lt s (i + 1)
  unfold w2
  omega
theorem w4_lt (s : ByteArray) (i : Nat) : w4 s i < 4294967296 := by
  have h1 := bn_lt s i
  have h2 := bn_lt s (i + 1)
  have h3 := bn_lt s (i + 2)
  have h4 := bn_lt s (i + 3)
  unfold w4
  omega
theorem bn_ext (s : ByteArray) (p q i : Nat) (hq : q ≤ s.size) (hi : p + i < q) : bn (s.extract p q) i = bn s (p + i) := by
  unfold bn
  rw [Lib.extract_data, List.getD_eq_getElem?_getD, List.getD_eq_getElem?_getD, List.getElem?_take_of_lt (by omega), List.getElem?_drop]
theorem w2_ext (s : ByteArray) (p q i : Nat) (hq : q ≤ s.size) (hi : p + i + 1 < q) : w2 (s.extract p q) i = w2 s (p + i) := by
  unfold w2
  rw [bn_ext s p q i hq (by omega), bn_ext s p q (i + 1) hq (by omega)]
  rfl
theorem w4_ext (s : ByteArray) (p q i : Nat) (hq : q ≤ s.size) (hi : p + i + 3 < q) : w4 (s.extract p q) i = w4 s (p + i) := by
  unfold w4
  rw [bn_ext s p q i hq (by omega), bn_ext s p q (i + 1) hq (by omega), bn_ext s p q (i + 2) hq (by omega), bn_ext s p q (i + 3) hq (by omega)]
  rfl

/-- A head's numbers, by its bytes; those of twelve bytes have no method and no colours. -/
def nW (z : ByteArray) : Int := if z.size = 12 then (w2 z 4 : Nat) else sgn (w4 z 4)
def nH (z : ByteArray) : Int := if z.size = 12 then (w2 z 6 : Nat) else sgn (w4 z 8)
def nP (z : ByteArray) : Nat := if z.size = 12 then w2 z 8 else w2 z 12
def nD (z : ByteArray) : Nat := if z.size = 12 then w2 z 10 else w2 z 14
def nM (z : ByteArray) : Nat := if z.size = 12 then 0 else w4 z 16
def nC (z : ByteArray) : Nat := if z.size = 12 then 0 else w4 z 32
def nV (z : ByteArray) : Array Value := #[.int .i64 (z.size : Nat), .int .i64 (nW z), .int .i64 (nH z), .int .i64 (nP z), .int .i64 (nD z), .int .i64 (nM z), .int .i64 (nC z)]

def rdH (n : Int) : Bool := decide (n = 12 ∨ n = 40 ∨ n = 52 ∨ n = 56 ∨ n = 108 ∨ n = 124)
def otH (n : Int) : Bool := decide (n = 16 ∨ n = 64)
def fa (n : Int) : Int := if 0 ≤ n then n else -n
def dpH (d n : Int) : Bool := decide ((d = 1 ∨ d = 4 ∨ d = 8 ∨ d = 24) ∨ ((d = 16 ∨ d = 32) ∧ n ≠ 12))
def ftH (m d : Int) : Bool := decide ((m = 1 ∧ d = 8) ∨ (m = 2 ∧ d = 4) ∨ (m = 3 ∧ (d = 16 ∨ d = 32)) ∨ (m ≠ 1 ∧ m ≠ 2 ∧ m ≠ 3))
def pkH (m : Int) : Bool := decide (m = 1 ∨ m = 2)
def allC (d : Int) : Int := if d = 1 then 2 else if d = 4 then 16 else if d = 8 then 256 else 0
def mstC (d : Int) : Int := if d = 1 then 2 else if d = 4 then 16 else 256
def clrC (d c : Int) : Int := if c = 0 then allC d else c

/-- Is check number k what is wrong? -/
def ckD (S W H P D M C : Int) : Nat → Bool
  | 0 => decide (W < 1)
  | 1 => decide (16384 < W)
  | 2 => H == 0
  | 3 => decide (16384 < fa H)
  | 4 => P != 1
  | 5 => !(dpH D S)
  | 6 => decide (3 < M)
  | 7 => !(ftH M D)
  | 8 => pkH M && decide (H < 0)
  | 9 => decide (mstC D < C)
  | _ => true
def kdD : Nat → Int
  | 0 => 2 | 1 => 3 | 2 => 2 | 3 => 3 | 4 => 2 | 5 => 3 | 6 => 3 | 7 => 2 | 8 => 2 | 9 => 2 | _ => 0
def plD (S : Int) : Nat → Int
  | 0 => 4 | 1 => 4 | 2 => (if S = 12 then 6 else 8) | 3 => (if S = 12 then 6 else 8) | 4 => (if S = 12 then 8 else 12) | 5 => (if S = 12 then 10 else 14) | 6 => 16 | 7 => 16 | 8 => (if S = 12 then 6 else 8) | 9 => 32 | _ => 0
/-- K is the first check that tells something; 10: there is none. -/
structure FstB (b : Nat → Bool) (K : Nat) : Prop where
  le : K ≤ 10
  yes : K < 10 → b K = true
  no : ∀ j, j < K → b j = false
theorem fst_ex (b : Nat → Bool) : ∃ K, FstB b K := by
  have : ∀ n, n ≤ 10 → (∀ j, j < 10 - n → b j = false) → ∃ K, FstB b K := by
    intro n
    induction n with
    | zero => intro _ h; exact ⟨10, Nat.le_refl _, fun h => absurd h (by decide), h⟩
    | succ n ih =>
      intro hn h
      cases hk : b (10 - (n + 1)) with
      | true => exact ⟨10 - (n + 1), by omega, fun _ => hk, h⟩
      | false => exact ih (by omega) (fun j hj => by
          by_cases e : j = 10 - (n + 1)
          · rw [e]; exact hk
          · exact h j (by omega))
  exact this 10 (Nat.le_refl _) (fun j hj => absurd hj (by omega))

theorem isread_calls (n : Int) (W : World) : Calls Tryz.prog 85 #[.int .i64 n] W fun e w' => e = .returned (.bool (rdH n)) ∧ W = w' := by
  by_cases h : n = 12 ∨ n = 40 ∨ n = 52 ∨ n = 56 ∨ n = 108 ∨ n = 124
  · rw [show rdH n = true from by unfold rdH; exact decide_eq_true h]
    obtain rfl | rfl | rfl | rfl | rfl | rfl := h
    all_goals
      go_enter Tryz.func85, Tryz.ntmps85
      go_wp2
      go_ret
      exact ⟨rfl, rfl⟩
  · rw [show rdH n = false from by unfold rdH; exact decide_eq_false h]
    have h12 : (n == 12) = false := by rw [beq_eq_false_iff_ne]; omega
    have h40 : (n == 40) = false := by rw [beq_eq_false_iff_ne]; omega
    have h52 : (n == 52) = false := by rw [beq_eq_false_iff_ne]; omega
    have h56 : (n == 56) = false := by rw [beq_eq_false_iff_ne]; omega
    have h108 : (n == 108) = false := by rw [beq_eq_false_iff_ne]; omega
    have h124 : (n == 124) = false := by rw [beq_eq_false_iff_ne]; omega
    clear h
    go_enter Tryz.func85, Tryz.ntmps85
    go_wp2
    go_ret
    exact ⟨rfl, rfl⟩

theorem isother_calls (n : Int) (W : World) : Calls Tryz.prog 84 #[.int .i64 n] W fun e w' => e = .returned (.bool (otH n)) ∧ W = w' := by
  by_cases h : n = 16 ∨ n = 64
  · rw [show otH n = true from by unfold otH; exact decide_eq_true h]
    obtain rfl | rfl := h
    all_goals
      go_enter Tryz.func84, Tryz.ntmps84
      go_wp2
      go_ret
      exact ⟨rfl, rfl⟩
  · rw [show otH n = false from by unfold otH; exact decide_eq_false h]
    have h16 : (n == 16) = false := by rw [beq_eq_false_iff_ne]; omega
    have h64 : (n == 64) = false := by rw [beq_eq_false_iff_ne]; omega
    clear h
    go_enter Tryz.func84, Tryz.ntmps84
    go_wp2
    go_ret
    exact ⟨rfl, rfl⟩

theorem ispacked_calls (n : Int) (W : World) : Calls Tryz.prog 91 #[.int .i64 n] W fun e w' => e = .returned (.bool (pkH n)) ∧ W = w' := by
  by_cases h : n = 1 ∨ n = 2
  · rw [show pkH n = true from by unfold pkH; exact decide_eq_true h]
    obtain rfl | rfl := h
    all_goals
      go_enter Tryz.func91, Tryz.ntmps91
      go_wp2
      go_ret
      exact ⟨rfl, rfl⟩
  · rw [show pkH n = false from by unfold pkH; exact decide_eq_false h]
    have h1 : (n == 1) = false := by rw [beq_eq_false_iff_ne]; omega
    have h2 : (n == 2) = false := by rw [beq_eq_false_iff_ne]; omega
    clear h
    go_enter Tryz.func91, Tryz.ntmps91
    go_wp2
    go_ret
    exact ⟨rfl, rfl⟩

theorem far_calls (n : Int) (h1 : -9223372036854775807 ≤ n) (h2 : n ≤ 9223372036854775807) (W : World) : Calls Tryz.prog 59 #[.int .i64 n] W fun e w' => e = .returned (.int .i64 (fa n)) ∧ W = w' := by
  have hw : IntKind.i64.wrap (-n) = -n := by rw [IntKind.wrap_i64]; omega
  have hw' : IntKind.i64.wrap (0 - n) = -n := by rw [IntKind.wrap_i64]; omega
  have e : fa n = max n (-n) := by unfold fa; split <;> omega
  rw [e]
  obtain ⟨m, hm⟩ : ∃ m, -n = m := ⟨_, rfl⟩
  rw [hm] at hw hw' ⊢
  clear e h1 h2
  go_enter Tryz.func59, Tryz.ntmps59
  go_wp2
  go_ret
  exact ⟨by first | rfl | simp, rfl⟩

theorem isdepth_calls (d n : Int) (W : World) : Calls Tryz.prog 89 #[.int .i64 d, .int .i64 n] W fun e w' => e = .returned (.bool (dpH d n)) ∧ W = w' := by
  by_cases h : d = 1 ∨ d = 4 ∨ d = 8 ∨ d = 24
  · rw [show dpH d n = true from by unfold dpH; exact decide_eq_true (.inl h)]
    obtain rfl | rfl | rfl | rfl := h
    all_goals
      go_enter Tryz.func89, Tryz.ntmps89
      go_wp2
      go_ret
      exact ⟨rfl, rfl⟩
  · by_cases h2 : d = 16 ∨ d = 32
    · rw [show dpH d n = (n != 12) from by
        unfold dpH
        rw [Bool.eq_iff_iff, decide_eq_true_iff, bne_iff_ne]
        exact ⟨fun k => k.elim (fun a => absurd a h) (fun a => a.2), fun k => .inr ⟨h2, k⟩⟩]
      obtain rfl | rfl := h2
      all_goals
        clear h
        go_enter Tryz.func89, Tryz.ntmps89
        go_wp2
        go_ret
        exact ⟨rfl, rfl⟩
    · rw [show dpH d n = false from by unfold dpH; exact decide_eq_false (fun k => k.elim h (fun a => h2 a.1))]
      have h1 : (d == 1) = false := by rw [beq_eq_false_iff_ne]; omega
      have h4 : (d == 4) = false := by rw [beq_eq_false_iff_ne]; omega
      have h8 : (d == 8) = false := by rw [beq_eq_false_iff_ne]; omega
      have h24 : (d == 24) = false := by rw [beq_eq_false_iff_ne]; omega
      have h16 : (d == 16) = false := by rw [beq_eq_false_iff_ne]; omega
      have h32 : (d == 32) = false := by rw [beq_eq_false_iff_ne]; omega
      clear h h2
      go_enter Tryz.func89, Tryz.ntmps89
      go_wp2
      go_ret
      exact ⟨rfl, rfl⟩

theorem fits_calls (m d : Int) (W : World) : Calls Tryz.prog 90 #[.int .i64 m, .int .i64 d] W fun e w' => e = .returned (.bool (ftH m d)) ∧ W = w' := by
  by_cases h1 : m = 1
  · subst h1
    rw [show ftH 1 d = (d == 8) from by unfold ftH; rw [Bool.eq_iff_iff, decide_eq_true_iff, beq_iff_eq]; omega]
    go_enter Tryz.func90, Tryz.ntmps90
    go_wp2
    go_ret
    exact ⟨rfl, rfl⟩
  by_cases h2 : m = 2
  · subst h2
    clear h1
    rw [show ftH 2 d = (d == 4) from by unfold ftH; rw [Bool.eq_iff_iff, decide_eq_true_iff, beq_iff_eq]; omega]
    go_enter Tryz.func90, Tryz.ntmps90
    go_wp2
    go_ret
    exact ⟨rfl, rfl⟩
  by_cases h3 : m = 3
  · subst h3
    clear h1 h2
    by_cases h16 : d = 16
    · subst h16
      rw [show ftH 3 16 = true from rfl]
      go_enter Tryz.func90, Tryz.ntmps90
      go_wp2
      go_ret
      exact ⟨rfl, rfl⟩
    · rw [show ftH 3 d = (d == 32) from by unfold ftH; rw [Bool.eq_iff_iff, decide_eq_true_iff, beq_iff_eq]; omega]
      have h : (d == 16) = false := by rw [beq_eq_false_iff_ne]; omega
      clear h16
      go_enter Tryz.func90, Tryz.ntmps90
      go_wp2
      go_ret
      exact ⟨rfl, rfl⟩
  · rw [show ftH m d = true from by unfold ftH; exact decide_eq_true (.inr (.inr (.inr ⟨h1, h2, h3⟩)))]
    have g1 : (m == 1) = false := by rw [beq_eq_false_iff_ne]; omega
    have g2 : (m == 2) = false := by rw [beq_eq_false_iff_ne]; omega
    have g3 : (m == 3) = false := by rw [beq_eq_false_iff_ne]; omega
    clear h1 h2 h3
    go_enter Tryz.func90, Tryz.ntmps90
    go_wp2
    go_ret
    exact ⟨rfl, rfl⟩

theorem allcolors_calls (d : Int) (W : World) : Calls Tryz.prog 95 #[.int .i64 d] W fun e w' => e = .returned (.int .i64 (allC d)) ∧ W = w' := by
  by_cases h : d = 1 ∨ d = 4 ∨ d = 8
  · obtain rfl | rfl | rfl := h
    all_goals
      go_enter Tryz.func95, Tryz.ntmps95
      go_wp2
      go_ret
      exact ⟨rfl, rfl⟩
  · rw [show allC d = 0 from by unfold allC; rw [if_neg (by omega), if_neg (by omega), if_neg (by omega)]]
    have h1 : (d == 1) = false := by rw [beq_eq_false_iff_ne]; omega
    have h4 : (d == 4) = false := by rw [beq_eq_false_iff_ne]; omega
    have h8 : (d == 8) = false := by rw [beq_eq_false_iff_ne]; omega
    clear h
    go_enter Tryz.func95, Tryz.ntmps95
    go_wp2
    go_ret
    exact ⟨rfl, rfl⟩

theorem mostcolors_calls (d : Int) (W : World) : Calls Tryz.prog 92 #[.int .i64 d] W fun e w' => e = .returned (.int .i64 (mstC d)) ∧ W = w' := by
  have K := fun u => allcolors_calls d u
  by_cases h : d = 1 ∨ d = 4 ∨ d = 8
  · obtain rfl | rfl | rfl := h
    · have K := Lib.hid (show ∀ u, Calls Tryz.prog 95 #[.int .i64 1] u fun e w' => e = .returned (.int .i64 2) ∧ u = w' from K)
      go_enter Tryz.func92, Tryz.ntmps92
      go_wp2_with fail
      refine (K.out _).mono ?_
      rintro e w' ⟨rfl, rfl⟩
      go_wp2
      go_ret
      exact ⟨rfl, rfl⟩
    · have K := Lib.hid (show ∀ u, Calls Tryz.prog 95 #[.int .i64 4] u fun e w' => e = .returned (.int .i64 16) ∧ u = w' from K)
      go_enter Tryz.func92, Tryz.ntmps92
      go_wp2_with fail
      refine (K.out _).mono ?_
      rintro e w' ⟨rfl, rfl⟩
      go_wp2
      go_ret
      exact ⟨rfl, rfl⟩
    · have K := Lib.hid (show ∀ u, Calls Tryz.prog 95 #[.int .i64 8] u fun e w' => e = .returned (.int .i64 256) ∧ u = w' from K)
      go_enter Tryz.func92, Tryz.ntmps92
      go_wp2_with fail
      refine (K.out _).mono ?_
      rintro e w' ⟨rfl, rfl⟩
      go_wp2
      go_ret
      exact ⟨rfl, rfl⟩
  · rw [show mstC d = 256 from by unfold mstC; rw [if_neg (by omega), if_neg (by omega)]]
    rw [show allC d = 0 from by unfold allC; rw [if_neg (by omega), if_neg (by omega), if_neg (by omega)]] at K
    have K := Lib.hid K
    clear h
    go_enter Tryz.func92, Tryz.ntmps92
    go_wp2_with fail
    refine (K.out _).mono ?_
    rintro e w' ⟨rfl, rfl⟩
    go_wp2
    go_ret
    exact ⟨rfl, rfl⟩

theorem colors_calls (S w h p D M C : Int) (W : World) : Calls Tryz.prog 60 #[.agg #[.int .i64 S, .int .i64 w, .int .i64 h, .int .i64 p, .int .i64 D, .int .i64 M, .int .i64 C]] W fun e w' => e = .returned (.int .i64 (clrC D C)) ∧ W.grownBy w' none := by
  have K := Lib.hid (fun u => allcolors_calls D u)
  by_cases hc : C = 0
  · subst hc
    rw [show clrC D 0 = allC D from rfl]
    go_enter Tryz.func60, Tryz.ntmps60
    go_wp2_with fail
    refine (K.out _).mono ?_
    rintro e w' ⟨rfl, rfl⟩
    go_wp2
    go_ret
    exact ⟨rfl, World.grownBy_alloc _ _ _⟩
  · rw [show clrC D C = C from if_neg hc]
    have h1 : (C == 0) = false := by rw [beq_eq_false_iff_ne]; omega
    clear hc
    go_enter Tryz.func60, Tryz.ntmps60
    go_wp2
    go_ret
    exact ⟨rfl, World.grownBy_alloc _ _ _⟩

def pcA (S : Int) : Array Value := if S = 12 then #[.int .i64 6, .int .i64 8, .int .i64 10] else #[.int .i64 8, .int .i64 12, .int .i64 14]
theorem places_calls (S : Int) (W : World) : Calls Tryz.prog 86 #[.int .i64 S] W fun e w' => e = .returned (.agg (pcA S)) ∧ W.grownBy w' none := by
  by_cases h : S = 12
  · subst h
    rw [show pcA 12 = #[.int .i64 6, .int .i64 8, .int .i64 10] from rfl]
    go_enter Tryz.func86, Tryz.ntmps86
    go_wp2
    first | go_ret | refine bodyPost_ret (v := .agg #[.int .i64 6, .int .i64 8, .int .i64 10]) (by simp only [results, Tryz.results86]; go_simp) rfl ?_
    exact ⟨rfl, by first | exact gb_refl _ _ | exact World.grownBy_alloc _ _ _⟩
  · rw [show pcA S = #[.int .i64 8, .int .i64 12, .int .i64 14] from if_neg h]
    have h1 : (S == 12) = false := by rw [beq_eq_false_iff_ne]; omega
    clear h
    go_enter Tryz.func86, Tryz.ntmps86
    go_wp2
    first | go_ret | refine bodyPost_ret (v := .agg #[.int .i64 8, .int .i64 12, .int .i64 14]) (by simp only [results, Tryz.results86]; go_simp) rfl ?_
    exact ⟨rfl, by first | exact gb_refl _ _ | exact World.grownBy_alloc _ _ _⟩

end Go.Proofs.YtfhcefglefkakaaGreatDoor.Dh
