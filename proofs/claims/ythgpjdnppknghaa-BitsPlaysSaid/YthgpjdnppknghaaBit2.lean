/- Package bits: parts of a byte, and how they are put together. -/
import Derived.Test.YthgpjdnppknghaaBit1
namespace Go.Proofs.Ythgpjdnppknghaa.Bi
open Go.ChangeShapes Go.WideShapes Go.ChangeAt Go.RowKit
open Go.Proofs.Ythgpjdnppknghaa.Le Go.Proofs.Ythgpjdnppknghaa.Sr
set_option linter.unusedVariables false

theorem and_low : ∀ (n : Fin 9) (v : Fin 256), bits .and .i64 (v.1 : Int) ((2 : Int) ^ n.1 - 1) = ((v.1 % 2 ^ n.1 : Nat) : Int) := by decide +kernel

set_option maxRecDepth 100000 in
theorem lowest_calls (v n : Nat) (w : World) (hv : v < 256) (hn : n ≤ 8) :
    Calls Try.prog 65 #[.int .i64 v, .int .i64 n] w fun e w' => e = .returned (.int .i64 ((v % 2 ^ n : Nat) : Int)) ∧ w = w' := by
  obtain rfl | rfl | rfl | rfl | rfl | rfl | rfl | rfl | rfl : n = 0 ∨ n = 1 ∨ n = 2 ∨ n = 3 ∨ n = 4 ∨ n = 5 ∨ n = 6 ∨ n = 7 ∨ n = 8 := by omega
  · have ha : bits .and .i64 (v : Int) 0 = ((v % 1 : Nat) : Int) := and_low ⟨0, by decide⟩ ⟨v, hv⟩
    obtain ⟨V, hV⟩ : ∃ V : Int, ((v % 1 : Nat) : Int) = V := ⟨_, rfl⟩
    rw [hV] at ha
    rw [show ((v % 2 ^ 0 : Nat) : Int) = V from hV]
    clear hV
    go_enter Try.func65, Try.ntmps65
    go_wp2
    go_ret
    exact ⟨rfl, rfl⟩
  · have ha : bits .and .i64 (v : Int) 1 = ((v % 2 : Nat) : Int) := and_low ⟨1, by decide⟩ ⟨v, hv⟩
    obtain ⟨V, hV⟩ : ∃ V : Int, ((v % 2 : Nat) : Int) = V := ⟨_, rfl⟩
    rw [hV] at ha
    rw [show ((v % 2 ^ 1 : Nat) : Int) = V from hV]
    clear hV
    go_enter Try.func65, Try.ntmps65
    go_wp2
    go_ret
    exact ⟨rfl, rfl⟩
  · have ha : bits .and .i64 (v : Int) 3 = ((v % 4 : Nat) : Int) := and_low ⟨2, by decide⟩ ⟨v, hv⟩
    obtain ⟨V, hV⟩ : ∃ V : Int, ((v % 4 : Nat) : Int) = V := ⟨_, rfl⟩
    rw [hV] at ha
    rw [show ((v % 2 ^ 2 : Nat) : Int) = V from hV]
    clear hV
    go_enter Try.func65, Try.ntmps65
    go_wp2
    go_ret
    exact ⟨rfl, rfl⟩
  · have ha : bits .and .i64 (v : Int) 7 = ((v % 8 : Nat) : Int) := and_low ⟨3, by decide⟩ ⟨v, hv⟩
    obtain ⟨V, hV⟩ : ∃ V : Int, ((v % 8 : Nat) : Int) = V := ⟨_, rfl⟩
    rw [hV] at ha
    rw [show ((v % 2 ^ 3 : Nat) : Int) = V from hV]
    clear hV
    go_enter Try.func65, Try.ntmps65
    go_wp2
    go_ret
    exact ⟨rfl, rfl⟩
  · have ha : bits .and .i64 (v : Int) 15 = ((v % 16 : Nat) : Int) := and_low ⟨4, by decide⟩ ⟨v, hv⟩
    obtain ⟨V, hV⟩ : ∃ V : Int, ((v % 16 : Nat) : Int) = V := ⟨_, rfl⟩
    rw [hV] at ha
    rw [show ((v % 2 ^ 4 : Nat) : Int) = V from hV]
    clear hV
    go_enter Try.func65, Try.ntmps65
    go_wp2
    go_ret
    exact ⟨rfl, rfl⟩
  · have ha : bits .and .i64 (v : Int) 31 = ((v % 32 : Nat) : Int) := and_low ⟨5, by decide⟩ ⟨v, hv⟩
    obtain ⟨V, hV⟩ : ∃ V : Int, ((v % 32 : Nat) : Int) = V := ⟨_, rfl⟩
    rw [hV] at ha
    rw [show ((v % 2 ^ 5 : Nat) : Int) = V from hV]
    clear hV
    go_enter Try.func65, Try.ntmps65
    go_wp2
    go_ret
    exact ⟨rfl, rfl⟩
  · have ha : bits .and .i64 (v : Int) 63 = ((v % 64 : Nat) : Int) := and_low ⟨6, by decide⟩ ⟨v, hv⟩
    obtain ⟨V, hV⟩ : ∃ V : Int, ((v % 64 : Nat) : Int) = V := ⟨_, rfl⟩
    rw [hV] at ha
    rw [show ((v % 2 ^ 6 : Nat) : Int) = V from hV]
    clear hV
    go_enter Try.func65, Try.ntmps65
    go_wp2
    go_ret
    exact ⟨rfl, rfl⟩
  · have ha : bits .and .i64 (v : Int) 127 = ((v % 128 : Nat) : Int) := and_low ⟨7, by decide⟩ ⟨v, hv⟩
    obtain ⟨V, hV⟩ : ∃ V : Int, ((v % 128 : Nat) : Int) = V := ⟨_, rfl⟩
    rw [hV] at ha
    rw [show ((v % 2 ^ 7 : Nat) : Int) = V from hV]
    clear hV
    go_enter Try.func65, Try.ntmps65
    go_wp2
    go_ret
    exact ⟨rfl, rfl⟩
  · have ha : bits .and .i64 (v : Int) 255 = ((v % 256 : Nat) : Int) := and_low ⟨8, by decide⟩ ⟨v, hv⟩
    obtain ⟨V, hV⟩ : ∃ V : Int, ((v % 256 : Nat) : Int) = V := ⟨_, rfl⟩
    rw [hV] at ha
    rw [show ((v % 2 ^ 8 : Nat) : Int) = V from hV]
    clear hV
    go_enter Try.func65, Try.ntmps65
    go_wp2
    go_ret
    exact ⟨rfl, rfl⟩

/-- The next n of the left bits of a byte. -/
def cutV (low : Bool) (last left n : Nat) : Nat := if low then last / 2 ^ (8 - left) % 2 ^ n else last / 2 ^ (left - n) % 2 ^ n

theorem div_lt (v k : Nat) (hv : v < 256) : v / 2 ^ k < 256 := Nat.lt_of_le_of_lt (Nat.div_le_self _ _) hv

set_option maxRecDepth 100000 in
theorem cutHigh_calls (last left n : Nat) (w : World) (hv : last < 256) (hn : n ≤ left) (hl : left ≤ 8) :
    Calls Try.prog 46 #[.int .i64 last, .int .i64 left, .int .i64 n] w fun e w' => e = .returned (.int .i64 (cutV false last left n)) ∧ w = w' := by
  have K := lowest_calls (last / 2 ^ (left - n)) n w (div_lt _ _ hv) (by omega)
  have e1 : ((left : Int) - n).toNat = left - n := by omega
  rw [show ((last / 2 ^ (left - n) : Nat) : Int) = (last : Int) / 2 ^ (left - n) from by simp] at K
  obtain ⟨V, hV⟩ : ∃ V : Int, ((last / 2 ^ (left - n) % 2 ^ n : Nat) : Int) = V := ⟨_, rfl⟩
  rw [hV] at K
  have e2 : ((cutV false last left n : Nat) : Int) = V := hV
  rw [e2]
  have hK := Lib.hid K
  clear K hV e2
  go_enter Try.func46, Try.ntmps46
  go_wp2_with fail
  refine hK.out.mono ?_
  rintro e w' ⟨rfl, rfl⟩
  go_wp2
  go_ret
  exact ⟨rfl, rfl⟩

set_option maxRecDepth 100000 in
theorem cutLow_calls (last left n : Nat) (w : World) (hv : last < 256) (hn : n ≤ left) (hl : left ≤ 8) :
    Calls Try.prog 44 #[.int .i64 last, .int .i64 left, .int .i64 n] w fun e w' => e = .returned (.int .i64 (cutV true last left n)) ∧ w = w' := by
  have K := lowest_calls (last / 2 ^ (8 - left)) n w (div_lt _ _ hv) (by omega)
  have e1 : ((8 : Int) - left).toNat = 8 - left := by omega
  rw [show ((last / 2 ^ (8 - left) : Nat) : Int) = (last : Int) / 2 ^ (8 - left) from by simp] at K
  obtain ⟨V, hV⟩ : ∃ V : Int, ((last / 2 ^ (8 - left) % 2 ^ n : Nat) : Int) = V := ⟨_, rfl⟩
  rw [hV] at K
  have e2 : ((cutV true last left n : Nat) : Int) = V := hV
  rw [e2]
  have hK := Lib.hid K
  clear K hV e2
  go_enter Try.func44, Try.ntmps44
  go_wp2_with fail
  refine hK.out.mono ?_
  rintro e w' ⟨rfl, rfl⟩
  go_wp2
  go_ret
  exact ⟨rfl, rfl⟩

theorem wraps_i64 (n : Int) (h₀ : 0 ≤ n) (h₁ : n < 2 ^ 63) : IntKind.i64.wrap n = n := IntWalk.i64_in _ (by omega)
theorem bits_or_comm (k : IntKind) (x y : Int) : bits .or k x y = bits .or k y x := by
  unfold bits
  simp only [BitVec.or_comm]
/-- n bits behind the number v. -/
def joinV (low : Bool) (v had part n : Nat) : Nat := if low then v + part * 2 ^ had else v * 2 ^ n + part
theorem pow_le40 {k : Nat} (h : k ≤ 40) : 2 ^ k ≤ 1099511627776 := Nat.le_trans (Nat.pow_le_pow_right (by decide) h) (by decide)

theorem or_join (v n part : Nat) (hp : part < 2 ^ n) (h : v * 2 ^ n + part < 1099511627776) : bits .or .i64 ((v : Int) * 2 ^ n) (part : Int) = ((v * 2 ^ n + part : Nat) : Int) := by
  have hm : ((v * 2 ^ n : Nat) : Int) % 2 ^ n = 0 := by
    have := Nat.mul_mod_left v (2 ^ n)
    exact_mod_cast this
  have hj := bits_join .i64 63 (by decide) wraps_i64 n ((v * 2 ^ n : Nat) : Int) (part : Int) (by omega) hm (by omega) (by omega) (by exact_mod_cast hp) (by omega)
  rw [show ((v * 2 ^ n : Nat) : Int) = (v : Int) * 2 ^ n from by simp] at hj
  rw [hj]
  simp

set_option maxRecDepth 100000 in
theorem joinHigh_calls (v had part n : Nat) (w : World) (hv : v < 2 ^ had) (hp : part < 2 ^ n) (hh : had + n ≤ 40) :
    Calls Try.prog 47 #[.int .i64 v, .int .i64 had, .int .i64 part, .int .i64 n] w fun e w' => e = .returned (.int .i64 (joinV false v had part n)) ∧ w = w' := by
  have hm : v * 2 ^ n + part < 2 ^ (had + n) := by
    rw [Nat.pow_add]
    have : (v + 1) * 2 ^ n ≤ 2 ^ had * 2 ^ n := Nat.mul_le_mul_right _ hv
    rw [Nat.add_mul] at this
    omega
  have h40 := pow_le40 hh
  have hj := or_join v n part hp (by omega)
  have b1 : ((v * 2 ^ n : Nat) : Int) ≤ 9223372036854775807 := by omega
  have b0 : (0 : Int) ≤ ((v * 2 ^ n : Nat) : Int) := by omega
  rw [show ((v * 2 ^ n : Nat) : Int) = (v : Int) * 2 ^ n from by simp] at b1 b0
  have hn : n ≤ 40 := by omega
  have e2 : ((joinV false v had part n : Nat) : Int) = ((v * 2 ^ n + part : Nat) : Int) := rfl
  rw [e2]
  obtain ⟨V, hV⟩ : ∃ V : Int, ((v * 2 ^ n + part : Nat) : Int) = V := ⟨_, rfl⟩
  rw [hV] at hj ⊢
  clear hV e2 hm h40 hv hh hp
  go_enter Try.func47, Try.ntmps47
  go_wp2
  trace_state
  go_ret
  exact ⟨rfl, rfl⟩

set_option maxRecDepth 100000 in
theorem joinLow_calls (v had part n : Nat) (w : World) (hv : v < 2 ^ had) (hp : part < 2 ^ n) (hh : had + n ≤ 40) :
    Calls Try.prog 45 #[.int .i64 v, .int .i64 had, .int .i64 part, .int .i64 n] w fun e w' => e = .returned (.int .i64 (joinV true v had part n)) ∧ w = w' := by
  have hm : part * 2 ^ had + v < 2 ^ (n + had) := by
    rw [Nat.pow_add]
    have : (part + 1) * 2 ^ had ≤ 2 ^ n * 2 ^ had := Nat.mul_le_mul_right _ hp
    rw [Nat.add_mul] at this
    omega
  have h40 := pow_le40 (show n + had ≤ 40 by omega)
  have hj := or_join part had v hv (by omega)
  rw [bits_or_comm] at hj
  have b1 : ((part * 2 ^ had : Nat) : Int) ≤ 9223372036854775807 := by omega
  have b0 : (0 : Int) ≤ ((part * 2 ^ had : Nat) : Int) := by omega
  rw [show ((part * 2 ^ had : Nat) : Int) = (part : Int) * 2 ^ had from by simp] at b1 b0
  have hn : had ≤ 40 := by omega
  have e2 : ((joinV true v had part n : Nat) : Int) = ((part * 2 ^ had + v : Nat) : Int) := by unfold joinV; rw [if_pos rfl, Nat.add_comm]
  rw [e2]
  obtain ⟨V, hV⟩ : ∃ V : Int, ((part * 2 ^ had + v : Nat) : Int) = V := ⟨_, rfl⟩
  rw [hV] at hj ⊢
  clear hV e2 hm h40 hv hh hp
  go_enter Try.func45, Try.ntmps45
  go_wp2
  go_ret
  exact ⟨rfl, rfl⟩

end Go.Proofs.Ythgpjdnppknghaa.Bi
