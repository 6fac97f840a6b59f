/- A fault's text is read as it was. -/
import Derived.Test.YtdcmbjhjfdjdhaaDoorFauB
namespace Go.Proofs.YtdcmbjhjfdjdhaaDoor.Fa
set_option linter.unusedVariables false

theorem kw_found (k : Int) (h0 : 0 ≤ k) (h1 : k ≤ 4) : findW kw (kw k) 5 0 = (k, true) := by
  obtain h | h | h | h | h : k = 0 ∨ k = 1 ∨ k = 2 ∨ k = 3 ∨ k = 4 := by omega
  all_goals subst h; decide
theorem fw_found (k : Int) (h0 : 0 ≤ k) (h1 : k ≤ 8) : findW fw (fw k) 9 0 = (k, true) := by
  obtain h | h | h | h | h | h | h | h | h : k = 0 ∨ k = 1 ∨ k = 2 ∨ k = 3 ∨ k = 4 ∨ k = 5 ∨ k = 6 ∨ k = 7 ∨ k = 8 := by omega
  all_goals subst h; decide
theorem kw_blank (k : Int) : ∀ c ∈ (kw k).data.toList, c ≠ 32 := by
  unfold kw
  repeat' split
  all_goals decide
theorem fw_blank (k : Int) : ∀ c ∈ (fw k).data.toList, c ≠ 32 := by
  unfold fw
  repeat' split
  all_goals decide
theorem right_is {k x a : Int} (h : rightB k x a = true) : 0 ≤ k ∧ k ≤ 4 ∧ 0 ≤ x ∧ x ≤ 8 ∧ 0 ≤ a ∧ a ≤ 4611686018427387904 := by
  unfold rightB at h
  split at h
  · simp at h; omega
  · simp at h; omega
theorem parse_text (k x : Int) (a : Nat) (hr : rightB k x a = true) :
    parseV (kw k ++ ⟨#[32]⟩ ++ fw x ++ ⟨#[32]⟩ ++ ⟨(Lib.decDigits a).toArray⟩).data.toList = .tuple #[.agg #[.int .i64 k, .int .i64 x, .int .i64 a], .int .i64 0] := by
  obtain ⟨k0, k1, x0, x1, a0, a1⟩ := right_is hr
  have hl : (kw k ++ ⟨#[32]⟩ ++ fw x ++ ⟨#[32]⟩ ++ ⟨(Lib.decDigits a).toArray⟩ : ByteArray).data.toList = (kw k).data.toList ++ 32 :: ((fw x).data.toList ++ 32 :: Lib.decDigits a) := by
    simp [ByteArray.data_append]
  rw [hl]
  have c1 := cut_word (kw k).data.toList ((fw x).data.toList ++ 32 :: Lib.decDigits a) (kw_blank k)
  have c2 := cut_word (fw x).data.toList (Lib.decDigits a) (fw_blank x)
  have e1 : kOf ((kw k).data.toList ++ 32 :: ((fw x).data.toList ++ 32 :: Lib.decDigits a)) = (k, true) := by
    unfold kOf w1
    rw [c1]
    exact kw_found k k0 k1
  have e2 : mOf ((kw k).data.toList ++ 32 :: ((fw x).data.toList ++ 32 :: Lib.decDigits a)) = (x, true) := by
    unfold mOf w1 r1
    rw [c1]
    show findW fw ⟨(Lib.cut ((fw x).data.toList ++ 32 :: Lib.decDigits a) [32]).1.toArray⟩ 9 0 = _
    rw [c2]
    exact fw_found x x0 x1
  have e3 : aOf ((kw k).data.toList ++ 32 :: ((fw x).data.toList ++ 32 :: Lib.decDigits a)) = some (a : Int) := by
    unfold aOf r1
    rw [c1]
    show placeO (Lib.cut ((fw x).data.toList ++ 32 :: Lib.decDigits a) [32]).2.1 = _
    rw [c2]
    exact place_dec a (by omega)
  unfold parseV
  rw [e1, e2, e3]
  show fin true true true (rightB k x a) k x a = _
  rw [hr]
  exact fin_ok rfl rfl rfl

end Go.Proofs.YtdcmbjhjfdjdhaaDoor.Fa
