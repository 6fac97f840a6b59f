/- Texts of one kind, one behind the other: TgaSz. -/
import Derived.Deep.Cut
import Derived.Test.YtnieeckdldpebaaGreatG05
import Derived.Test.YtnieeckdldpebaaGreatG06
/- The document's Read of a head (written by tga7c.py). -/
namespace Go.Proofs.YtnieeckdldpebaaGreat.Tg
open Go.ChangeShapes Go.WideShapes Go.ChangeAt Go.RowKit
open Go.Proofs.YtnieeckdldpebaaGreat.Le Go.Proofs.YtnieeckdldpebaaGreat.Sr
set_option linter.unusedVariables false

/-- The document's Read of a text that has a head's bytes. -/
theorem read_calls (s : ByteArray) (K : Nat) (W : World) (h18 : 18 ≤ s.size) (hm : s.size ≤ 9223372036854775807) (C : Ck s K) :
    Calls Tryz.prog 22 #[.string s] W fun e w' => e = .returned (.agg (rV s K)) ∧ W.grownBy w' none := by
  by_cases h0 : bn s 1 = 0
  · exact read_nomp s K _ _ _ _ _ _ _ _ _ _ _ _ _ W h18 hm C rfl rfl h0 rfl rfl rfl rfl rfl rfl rfl rfl rfl rfl rfl
  · by_cases h1 : bn s 1 = 1
    · exact read_mp s K _ _ _ _ _ _ _ _ _ _ _ _ _ W h18 hm C rfl rfl h1 rfl rfl rfl rfl rfl rfl rfl rfl rfl rfl rfl
    · have h2 : 1 < bn s 1 := by omega
      have hck : ck s 0 = true := decide_eq_true h2
      have hK : K = 0 := by
        rcases Nat.eq_zero_or_pos K with h | h
        · exact h
        · rw [C.no 0 h] at hck; cases hck
      subst hK
      exact read_one s W h18 hm h2

/-- The document's Read of a good head. -/
theorem read_good (s : ByteArray) (W : World) (h18 : 18 ≤ s.size) (hm : s.size ≤ 9223372036854775807) (C : Ck s 12) :
    Calls Tryz.prog 22 #[.string s] W fun e w' => e = .returned (.agg (rGood s)) ∧ W.grownBy w' none := by
  have hr : rGood s = rV s 12 := (if_pos rfl).symm
  rw [hr]
  exact read_calls s 12 W h18 hm C

/-- The document's Read of a head that is wrong. -/
theorem read_bad (s : ByteArray) (W : World) (h18 : 18 ≤ s.size) (hm : s.size ≤ 9223372036854775807) (K : Nat) (C : Ck s K) (hK : K < 12) :
    Calls Tryz.prog 22 #[.string s] W fun e w' => e = .returned (.agg (rBad (kdK K) (plK K))) ∧ W.grownBy w' none := by
  have ng : rV s K = rBad (kdK K) (plK K) := if_neg (by omega)
  rw [← ng]
  exact read_calls s K W h18 hm C

end Go.Proofs.YtnieeckdldpebaaGreat.Tg
