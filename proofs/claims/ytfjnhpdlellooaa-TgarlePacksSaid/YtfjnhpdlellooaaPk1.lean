/- Layer 18: the code's alike and unlike. -/
import Derived.Test.YtfjnhpdlellooaaPk0
import Derived.OpenShut
import Derived.Outline
import Derived.IntWalk
import Derived.Deep.LoopGhost
import Derived.Deep.QuietTactic
import Derived.BigQuiet
namespace Go.Proofs.Ytfjnhpdlellooaa.Pk
open Go.ChangeShapes Go.WideShapes Go.ChangeAt Go.RowKit
set_option linter.unusedVariables false

/-- The pixels L, from number i on, lie in a row of strings. -/
def StrAt (b o i n : Nat) (L : Nat → ByteArray) (w : World) : Prop := ∀ k, k < n → w.cell? ⟨b, o + k, none⟩ = some (.string (L (i + k)))
theorem gbr (w : World) (r : Option Nat) : w.grownBy w r := ⟨rfl, rfl, rfl, Nat.le_refl _, fun _ _ _ => rfl⟩
theorem gbt {a b c : World} {r : Option Nat} (h : a.grownBy b r) (k : b.grownBy c r) : a.grownBy c r :=
  ⟨k.os.trans h.os, k.tape.trans h.tape, k.output.trans h.output, Nat.le_trans h.size k.size, fun i hi hr => (k.block i (Nat.lt_of_lt_of_le hi h.size) hr).trans (h.block i hi hr)⟩
theorem gbdn (w : World) (n : Nat) (r : Option Nat) : w.grownBy (w.drewN n) r := ⟨rfl, rfl, rfl, Nat.le_refl _, fun _ _ _ => rfl⟩
theorem str_eq {a b : ByteArray} (h : a = b) : (a.toList == b.toList) = true := by rw [h]; exact beq_self_eq_true _
theorem str_ne {a b : ByteArray} (h : a ≠ b) : (a.toList == b.toList) = false := by
  rw [beq_eq_false_iff_ne]
  intro e
  rw [Lib.toList_data, Lib.toList_data] at e
  exact h (by
    cases a; cases b
    simp only [ByteArray.mk.injEq]
    exact Array.toList_inj.1 e)
/-- The lesser of a count and 128. -/
theorem min128 (len : Nat) : ∃ M : Nat, min (len : Int) 128 = (M : Int) ∧ M ≤ len ∧ M ≤ 128 ∧ (M = 128 ∨ M = len) := by
  by_cases h : (128 : Int) < (len : Int)
  · exact ⟨128, by omega, by omega, by omega, .inl rfl⟩
  · exact ⟨len, by omega, Nat.le_refl _, by omega, .inr rfl⟩

set_option maxRecDepth 100000 in
theorem alike_calls (b off i len cap : Nat) (L : Nat → ByteArray) (W : World) (h0 : 0 < len) (hm : len ≤ 9223372036854775807) (hS : StrAt b off i len L W) :
    Calls Try.prog 9 #[.slice (some ⟨b, off, none⟩) len cap] W fun e w' => ∃ n : Nat, e = .returned (.int .i64 n) ∧ AL L (i + len) i n ∧ W.grownBy w' none := by
  obtain ⟨M, hM, hMl, hM1, hM2⟩ := min128 len
  have HS := Lib.hid hS
  have HC0 := Lib.hid (hS 0 h0)
  have HM2 := Lib.hid hM2
  have hz0 : (0 : Int) < (len : Int) := by omega
  have hM0 : 1 ≤ M := by omega
  clear hS hM2
  go_enter Try.func9, Try.ntmps9
  go_wp2
  go_loopg [3] 129 (fun q nv wr => ∃ k : Nat, 1 ≤ k ∧ k ≤ M ∧ q = 130 - k ∧ nv = .int .i64 k ∧ (∀ j, j < k → L (i + j) = L i) ∧ W.grownBy wr none)
  case atStart => exact ⟨1, Nat.le_refl _, hM0, rfl, rfl, fun j hj => (by obtain rfl : j = 0 := (by omega); rfl), gbr _ _⟩
  case round =>
    obtain ⟨k, hk1, hkM, rfl, rfl, hall, g⟩ := hrel
    have HALL := Lib.hid hall
    have HG := Lib.hid g
    have c0 := g.cell HC0.out (by simp)
    rw [Nat.add_zero, Nat.add_zero] at c0
    clear hall
    by_cases hlt : k < M
    · have ck := g.cell (HS.out k (by omega)) (by simp)
      have d1 : (k : Int) < (M : Int) := by omega
      have d2 : (k : Int) < (len : Int) := by omega
      obtain ⟨z, hz⟩ : ∃ z, L (i + k) = z := ⟨_, rfl⟩
      obtain ⟨y, hy⟩ : ∃ z, L i = z := ⟨_, rfl⟩
      rw [hz] at ck
      rw [hy] at c0
      have HZ := Lib.hid hz
      have HY := Lib.hid hy
      clear hz hy g
      by_cases he : z = y
      · have e1 := str_eq he
        have HE := Lib.hid he
        clear he
        go_wp2_with fail
        go_quiet (fail)
        have HG1 := Lib.hid (gbt HG.out (gbdn wr nq none))
        go_wp2
        go_roundg (130 - (k + 1))
        case measure => omega
        case rel => exact ⟨k + 1, by omega, by omega, rfl, by go_num, fun j hj => (by
          by_cases hjk : j < k
          · exact HALL.out j hjk
          · obtain rfl : j = k := by omega
            rw [HZ.out, HY.out, HE.out]), HG1.out⟩
      · have e1 := str_ne he
        have HE := Lib.hid he
        clear he
        go_wp2_with fail
        go_quiet (fail)
        have HG1 := Lib.hid (gbt HG.out (gbdn wr nq none))
        go_wp2
        go_ret
        exact ⟨k, rfl, ⟨hk1, by omega, by omega, HALL.out, .inr (.inr (by rw [HZ.out, HY.out]; exact HE.out))⟩, HG1.out⟩
    · obtain rfl : k = M := by omega
      have d1 : ¬ (k : Int) < (k : Int) := by omega
      clear g
      go_wp2_with fail
      go_quiet (fail)
      have HG1 := Lib.hid (gbt HG.out (gbdn wr nq none))
      go_wp2
      go_ret
      have h := HM2.out
      exact ⟨k, rfl, ⟨hk1, hM1, by omega, HALL.out, by omega⟩, HG1.out⟩

set_option maxRecDepth 100000 in
theorem unlike_calls (b off i len cap : Nat) (L : Nat → ByteArray) (W : World) (h0 : 0 < len) (hm : len ≤ 9223372036854775806) (hS : StrAt b off i len L W) :
    Calls Try.prog 10 #[.slice (some ⟨b, off, none⟩) len cap] W fun e w' => ∃ n : Nat, e = .returned (.int .i64 n) ∧ UL L (i + len) i n ∧ W.grownBy w' none := by
  obtain ⟨M, hM, hMl, hM1, hM2⟩ := min128 len
  have HS := Lib.hid hS
  have HM2 := Lib.hid hM2
  clear hS hM2
  go_enter Try.func10, Try.ntmps10
  go_wp2
  go_loopg [3] 130 (fun q nv wr => ∃ k : Nat, k ≤ M ∧ q = 130 - k ∧ nv = .int .i64 k ∧ (∀ j, j < k → ¬ (i + j + 1 < i + len ∧ L (i + j) = L (i + j + 1))) ∧ W.grownBy wr none)
  case atStart => exact ⟨0, Nat.zero_le _, rfl, rfl, fun j hj => absurd hj (by omega), gbr _ _⟩
  case round =>
    obtain ⟨k, hkM, rfl, rfl, hall, g⟩ := hrel
    have HALL := Lib.hid hall
    have HG := Lib.hid g
    clear hall
    by_cases hlt : k < M
    · have d1 : (k : Int) < (M : Int) := by omega
      obtain ⟨m, hmk⟩ : ∃ m, k + 1 = m := ⟨_, rfl⟩
      have hw : IntKind.i64.wrap ((k : Int) + 1) = (m : Int) := by rw [IntWalk.i64_in _ (by omega)]; omega
      have HMK := Lib.hid hmk
      by_cases hl : m = len
      · have d2 : ((m : Int) == (len : Int)) = true := by rw [beq_iff_eq]; omega
        have HL := Lib.hid hl
        clear g hl hmk
        go_wp2_with fail
        go_quiet (fail)
        have HG1 := Lib.hid (gbt HG.out (gbdn wr nq none))
        go_wp2
        go_roundg (130 - m)
        case measure => (have := HMK.out; omega)
        case rel => exact ⟨m, by have := HMK.out; omega, rfl, rfl, fun j hj => (by
          have hmk := HMK.out
          by_cases hjk : j < k
          · exact HALL.out j hjk
          · have := HL.out
            rintro ⟨h, _⟩
            omega), HG1.out⟩
      · have d2 : ((m : Int) == (len : Int)) = false := by rw [beq_eq_false_iff_ne]; omega
        have c0 := g.cell (HS.out k (by omega)) (by simp)
        have c1 := g.cell (HS.out m (by omega)) (by simp)
        have d3 : (k : Int) < (len : Int) := by omega
        have d4 : (m : Int) < (len : Int) := by omega
        obtain ⟨z, hz⟩ : ∃ z, L (i + k) = z := ⟨_, rfl⟩
        obtain ⟨y, hy⟩ : ∃ z, L (i + m) = z := ⟨_, rfl⟩
        rw [hz] at c0
        rw [hy] at c1
        have HZ := Lib.hid hz
        have HY := Lib.hid hy
        have HL := Lib.hid hl
        clear hz hy g hl hmk
        by_cases he : z = y
        · have e1 := str_eq he
          have HE := Lib.hid he
          clear he
          go_wp2_with fail
          go_quiet (fail)
          have HG1 := Lib.hid (gbt HG.out (gbdn wr nq none))
          go_wp2
          go_ret
          exact ⟨k, rfl, ⟨by omega, by omega, HALL.out, .inr (.inr ⟨by have := HL.out; have := HMK.out; omega, by rw [Nat.add_assoc, HMK.out, HZ.out, HY.out, HE.out]⟩)⟩, HG1.out⟩
        · have e1 := str_ne he
          have HE := Lib.hid he
          clear he
          go_wp2_with fail
          go_quiet (fail)
          have HG1 := Lib.hid (gbt HG.out (gbdn wr nq none))
          go_wp2
          go_roundg (130 - m)
          case measure => (have := HMK.out; omega)
          case rel => exact ⟨m, by have := HMK.out; omega, rfl, rfl, fun j hj => (by
            have hmk := HMK.out
            by_cases hjk : j < k
            · exact HALL.out j hjk
            · obtain rfl : j = k := by omega
              rintro ⟨_, h⟩
              rw [Nat.add_assoc, hmk, HZ.out, HY.out] at h
              exact HE.out h), HG1.out⟩
    · obtain rfl : k = M := by omega
      have d1 : ¬ (k : Int) < (k : Int) := by omega
      clear g
      go_wp2_with fail
      go_quiet (fail)
      have HG1 := Lib.hid (gbt HG.out (gbdn wr nq none))
      go_wp2
      go_ret
      have h := HM2.out
      exact ⟨k, rfl, ⟨hM1, by omega, HALL.out, by omega⟩, HG1.out⟩

end Go.Proofs.Ytfjnhpdlellooaa.Pk
