/- Layer 30: tgahead.Is. -/
import Derived.Test.YtibbebglbcjnmaaDoorSn5
namespace Go.Proofs.YtibbebglbcjnmaaDoor.Tg
open Go.ChangeShapes Go.WideShapes Go.ChangeAt Go.RowKit
open Go.Proofs.YtibbebglbcjnmaaDoor.Le Go.Proofs.YtibbebglbcjnmaaDoor.Sr
set_option linter.unusedVariables false

theorem ckT_first (s : ByteArray) : ∀ n, n ≤ 12 → (∀ j, j < 12 - n → sgC j = true → ck s j = false) → ∃ K, CkT s K
  | 0, _, h => ⟨12, Nat.le_refl _, rfl, rfl, h⟩
  | n + 1, hn, h => by
    by_cases hk : sgC (12 - (n + 1)) = true ∧ ck s (12 - (n + 1)) = true
    · exact ⟨12 - (n + 1), by omega, hk.2, hk.1, h⟩
    · refine ckT_first s n (by omega) (fun j hj hs => ?_)
      by_cases hjn : j < 12 - (n + 1)
      · exact h j hjn hs
      · obtain rfl : j = 12 - (n + 1) := by omega
        cases e : ck s (12 - (n + 1)) with
        | false => rfl
        | true => exact absurd ⟨hs, e⟩ hk
theorem ckT_ex (s : ByteArray) : ∃ K, CkT s K := ckT_first s 12 (Nat.le_refl _) (fun j hj => by omega)
theorem kd_12 (K : Nat) (h : K ≤ 12) : kdK K = 0 ↔ K = 12 := by
  obtain rfl | rfl | rfl | rfl | rfl | rfl | rfl | rfl | rfl | rfl | rfl | rfl | rfl : K = 0 ∨ K = 1 ∨ K = 2 ∨ K = 3 ∨ K = 4 ∨ K = 5 ∨ K = 6 ∨ K = 7 ∨ K = 8 ∨ K = 9 ∨ K = 10 ∨ K = 11 ∨ K = 12 := by omega
  all_goals decide
/-- Is a text a TGA file's beginning? -/
def tgB (s : ByteArray) : Bool := decide (18 ≤ s.size) && !(ck s 0 || ck s 1 || ck s 2 || ck s 3 || ck s 5 || ck s 7 || ck s 9)
theorem tgB_of {s : ByteArray} {K : Nat} (h : 18 ≤ s.size) (C : CkT s K) : tgB s = decide (K = 12) := by
  unfold tgB
  rw [decide_eq_true h, Bool.true_and]
  by_cases hK : K = 12
  · subst hK
    rw [C.no 0 (by decide) rfl, C.no 1 (by decide) rfl, C.no 2 (by decide) rfl, C.no 3 (by decide) rfl, C.no 5 (by decide) rfl, C.no 7 (by decide) rfl, C.no 9 (by decide) rfl]
    rfl
  · rw [decide_eq_false hK]
    have hy := C.yes
    have hs := C.sg
    have hl := C.le
    obtain rfl | rfl | rfl | rfl | rfl | rfl | rfl | rfl | rfl | rfl | rfl | rfl : K = 0 ∨ K = 1 ∨ K = 2 ∨ K = 3 ∨ K = 4 ∨ K = 5 ∨ K = 6 ∨ K = 7 ∨ K = 8 ∨ K = 9 ∨ K = 10 ∨ K = 11 := by omega
    all_goals first
      | (rw [hy]; simp; done)
      | exact absurd hs (by decide)
set_option maxRecDepth 100000 in
theorem tg_calls (s : ByteArray) (hm : s.size ≤ 9223372036854775807) (W : World) : Calls Tryd.prog 18 #[.string s] W fun e w' => e = .returned (.bool (tgB s)) ∧ W.grownBy w' none := by
  by_cases h : 18 ≤ s.size
  · obtain ⟨K, C⟩ := ckT_ex s
    rw [tgB_of h C]
    have KW := fun u => wrongT_calls s K u h hm C
    have hk := kd_12 K C.le
    have d0 : decide ((s.size : Int) < 18) = false := decide_eq_false (by omega)
    have d0' : ¬ (s.size : Int) < 18 := by omega
    obtain ⟨k, ek⟩ : ∃ k, kdK K = k := ⟨_, rfl⟩
    obtain ⟨p, ep⟩ : ∃ k, plK K = k := ⟨_, rfl⟩
    rw [ek, ep] at KW
    rw [ek] at hk
    have KW := Lib.hid KW
    clear ek ep C
    by_cases h12 : K = 12
    · obtain rfl : k = 0 := hk.2 h12
      rw [decide_eq_true h12]
      clear hk h12
      go_enter Tryd.func18, Tryd.ntmps18
      go_wp2_with fail
      refine (KW.out _).mono ?_
      rintro e w' ⟨rfl, g⟩
      go_wp2
      go_ret
      exact ⟨rfl, g⟩
    · have hk0 : ¬ k = 0 := fun e => h12 (hk.1 e)
      have e0 : (k == 0) = false := by rw [beq_eq_false_iff_ne]; exact hk0
      rw [decide_eq_false h12]
      clear hk h12
      go_enter Tryd.func18, Tryd.ntmps18
      go_wp2_with fail
      refine (KW.out _).mono ?_
      rintro e w' ⟨rfl, g⟩
      go_wp2
      go_ret
      exact ⟨rfl, g⟩
  · rw [show tgB s = false by unfold tgB; rw [decide_eq_false h]; rfl]
    exact Sn.tg_short s (by omega) W

end Go.Proofs.YtibbebglbcjnmaaDoor.Tg
