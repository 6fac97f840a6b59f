/- Layer 21: the document's Depth; the example; the law of packing, walked (written by wip/gen/rw9.py). -/
import Derived.Test.YtafglaiclpdhnaaRw7
namespace Go.Proofs.Ytafglaiclpdhnaa.Rw
open Go.ChangeShapes Go.WideShapes Go.ChangeAt Go.RowKit
open Go.Proofs.Ytafglaiclpdhnaa.Le Go.Proofs.Ytafglaiclpdhnaa.Sc
set_option linter.unusedVariables false

theorem rdepth_calls (n : Int) (W : World) : Calls Try.prog 7 #[.int .i64 n] W fun e w' => e = .returned (.bool (dpI n)) ∧ W = w' := by
  by_cases h : n = 1 ∨ n = 4 ∨ n = 8 ∨ n = 16 ∨ n = 24 ∨ n = 32
  · rw [show dpI n = true from decide_eq_true h]
    obtain rfl | rfl | rfl | rfl | rfl | rfl := h
    all_goals
      go_enter Try.func7, Try.ntmps7
      go_wp2
      go_ret
      exact ⟨rfl, rfl⟩
  · rw [show dpI n = false from decide_eq_false h]
    have h1 : (n == 1) = false := by rw [beq_eq_false_iff_ne]; omega
    have h4 : (n == 4) = false := by rw [beq_eq_false_iff_ne]; omega
    have h8 : (n == 8) = false := by rw [beq_eq_false_iff_ne]; omega
    have h16 : (n == 16) = false := by rw [beq_eq_false_iff_ne]; omega
    have h24 : (n == 24) = false := by rw [beq_eq_false_iff_ne]; omega
    have h32 : (n == 32) = false := by rw [beq_eq_false_iff_ne]; omega
    clear h
    go_enter Try.func7, Try.ntmps7
    go_wp2
    go_ret
    exact ⟨rfl, rfl⟩

/-- The example's row. -/
def exV (k : Nat) : Int := if k = 1 then 0 else 1
theorem ex_row : toT (rowL 1 3 exV (flN 3 1) (3 * 1)) = ⟨#[160, 0, 0, 0]⟩ := by decide
set_option maxRecDepth 100000 in
theorem awake_calls (W : World) : Calls Try.prog 5 #[] W fun e w' => e = .returned (.bool true) ∧ W.grownBy w' none := by
  have H0 : (W.alloc (.cells #[.int .i64 1, .int .i64 0, .int .i64 1] 3)).heap[W.heap.size]? = _ := heap_alloc_new W _
  have K := pack_calls (some ⟨W.heap.size, 0, none⟩) W.heap.size 0 3 3 1 3 exV (W.alloc (.cells #[.int .i64 1, .int .i64 0, .int .i64 1] 3)) (.inl rfl) (by decide) (fun _ => rfl) (fun k hk => by
    obtain rfl | rfl | rfl : k = 0 ∨ k = 1 ∨ k = 2 := by omega
    · exact blk_cell H0 0
    · exact blk_cell H0 1
    · exact blk_cell H0 2) (Nat.le_refl _) (fun k hk => by unfold exV; split <;> decide) (.inl rfl)
  rw [if_pos rfl, ex_row] at K
  have HG := Lib.hid (World.grownBy_alloc W (.cells #[.int .i64 1, .int .i64 0, .int .i64 1] 3) none)
  have HK := Lib.hid K
  have e1 : ((⟨#[160, 0, 0, 0]⟩ : ByteArray).toList == (⟨#[160, 0, 0, 0]⟩ : ByteArray).toList) = true := beq_self_eq_true _
  clear K H0
  go_enter Try.func5, Try.ntmps5
  go_wp2_with fail
  refine HK.out.mono ?_
  rintro e w1 ⟨rfl, g1⟩
  have HG1 := Lib.hid (gb_trans HG.out g1)
  clear g1
  go_wp2
  go_ret
  exact ⟨rfl, HG1.out⟩

/-- Where the first number stands that has no place. -/
theorem first_bad (p : Nat → Prop) [DecidablePred p] : ∀ n : Nat, ∃ t, t ≤ n ∧ (∀ j, j < t → p j) ∧ (t = n ∨ (t < n ∧ ¬ p t))
  | 0 => ⟨0, Nat.le_refl _, fun j h => absurd h (Nat.not_lt_zero j), .inl rfl⟩
  | n + 1 => by
    obtain ⟨t, h1, h2, h3⟩ := first_bad p n
    rcases h3 with rfl | ⟨h3, h4⟩
    · by_cases hp : p t
      · exact ⟨t + 1, Nat.le_refl _, fun j hj => by
          rcases Nat.lt_or_ge j t with h | h
          · exact h2 j h
          · obtain rfl : j = t := by omega
            exact hp, .inl rfl⟩
      · exact ⟨t, by omega, h2, .inr ⟨by omega, hp⟩⟩
    · exact ⟨t, by omega, h2, .inr ⟨by omega, h4⟩⟩

set_option maxRecDepth 100000 in
theorem law_far (a : Option Addr) (n cap : Nat) (d : Int) (W : World) (hn : 100 < n) (hm : n ≤ 9223372036854775807) : Calls Try.prog 3 #[.slice a n cap, .int .i64 d] W fun e w' => e = .returned (.bool true) ∧ W.grownBy w' none := by
  have d0 : decide ((100 : Int) < (n : Int)) = true := decide_eq_true (by omega)
  have d1 : (100 : Int) < (n : Int) := by omega
  clear hn
  go_enter Try.func3, Try.ntmps3
  go_wp2_with fail
  refine (awake_calls _).mono ?_
  rintro e w9 ⟨rfl, g9⟩
  have HG := Lib.hid g9
  clear g9
  go_wp2
  go_ret
  exact ⟨rfl, HG.out⟩

set_option maxRecDepth 100000 in
set_option maxHeartbeats 2000000 in
theorem law_arg (a : Option Addr) (n cap : Nat) (d : Int) (W : World) (hn : n ≤ 100) (hd : dpI d = false) : Calls Try.prog 3 #[.slice a n cap, .int .i64 d] W fun e w' => e = .returned (.bool true) ∧ W.grownBy w' none := by
  have d0 : decide ((100 : Int) < (n : Int)) = false := decide_eq_false (by omega)
  have d1 : ¬ (100 : Int) < (n : Int) := by omega
  have h24 : d ≠ 24 := by
    intro h
    subst h
    exact absurd hd (by decide)
  have n0 : (d != 24) = true := by rw [bne_iff_ne]; exact h24
  have KP := Lib.hid (fun s w => pack_arg s d w hd)
  have KR := rdepth_calls d
  rw [hd] at KR
  have KR := Lib.hid KR
  clear hd h24
  go_enter Try.func3, Try.ntmps3
  go_wp2_with fail
  refine (KP.out _ _).mono ?_
  rintro e w' ⟨rfl, rfl⟩
  go_wp2_with fail
  refine (KR.out _).mono ?_
  rintro e w' ⟨rfl, rfl⟩
  go_wp2_with fail
  refine (awake_calls _).mono ?_
  rintro e w9 ⟨rfl, g9⟩
  have HG := Lib.hid g9
  clear g9
  go_wp2
  go_ret
  exact ⟨rfl, HG.out⟩

end Go.Proofs.Ytafglaiclpdhnaa.Rw
