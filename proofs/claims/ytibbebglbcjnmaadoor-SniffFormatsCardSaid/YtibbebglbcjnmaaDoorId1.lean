/- Layer 24: the small functions of directories (written by wip/gen/id1.py). -/
import Derived.Test.YtibbebglbcjnmaaDoorDiN
import Derived.Deep.LoopGhost
namespace Go.Proofs.YtibbebglbcjnmaaDoor.Id
open Go.ChangeShapes Go.WideShapes Go.ChangeAt Go.RowKit
open Go.Proofs.YtibbebglbcjnmaaDoor.Le Go.Proofs.YtibbebglbcjnmaaDoor.Sr Go.Proofs.YtibbebglbcjnmaaDoor.Dh
set_option linter.unusedVariables false

def lo (s : ByteArray) : Nat → Nat
  | 0 => 0
  | k + 1 => lo s k + 256 ^ k * bn s k
theorem lo_lt (s : ByteArray) : ∀ k, lo s k < 256 ^ k
  | 0 => Nat.zero_lt_one
  | k + 1 => by
    have h1 := lo_lt s k
    have h2 : 256 ^ k * bn s k ≤ 256 ^ k * 255 := Nat.mul_le_mul_left _ (by have := bn_lt s k; omega)
    show lo s k + _ < 256 ^ k * 256
    omega
theorem lo_2 (s : ByteArray) : lo s 2 = w2 s 0 := by
  simp only [lo, w2, Nat.zero_add]
  omega
theorem lo_4 (s : ByteArray) : lo s 4 = w4 s 0 := by
  simp only [lo, w4, Nat.zero_add]
  omega
theorem wr32 (n : Int) (h₀ : 0 ≤ n) (h₁ : n < 2 ^ 32) : IntKind.i64.wrap n = n := by rw [IntKind.wrap_i64]; omega
theorem or64_0 (v c : Nat) (hv : v < 1) (hc : c < 256) : bits .or .i64 (v : Int) (c : Int) = ((v + 1 * c : Nat) : Int) := by
  have h := bits_nat .i64 32 (by decide) wr32 v (1 * c) (by omega) (by omega)
  rw [show ((c : Int) : Int) = ((1 * c : Nat) : Int) from by omega, h.2, Nat.or_comm, show 1 = 2 ^ 0 from rfl, ← Nat.two_pow_add_eq_or_of_lt (by omega) c]
  omega
theorem or64_1 (v c : Nat) (hv : v < 256) (hc : c < 256) : bits .or .i64 (v : Int) ((c : Int) * 256) = ((v + 256 * c : Nat) : Int) := by
  have h := bits_nat .i64 32 (by decide) wr32 v (256 * c) (by omega) (by omega)
  rw [show (((c : Int) * 256) : Int) = ((256 * c : Nat) : Int) from by omega, h.2, Nat.or_comm, show 256 = 2 ^ 8 from rfl, ← Nat.two_pow_add_eq_or_of_lt (by omega) c]
  omega
theorem or64_2 (v c : Nat) (hv : v < 65536) (hc : c < 256) : bits .or .i64 (v : Int) ((c : Int) * 65536) = ((v + 65536 * c : Nat) : Int) := by
  have h := bits_nat .i64 32 (by decide) wr32 v (65536 * c) (by omega) (by omega)
  rw [show (((c : Int) * 65536) : Int) = ((65536 * c : Nat) : Int) from by omega, h.2, Nat.or_comm, show 65536 = 2 ^ 16 from rfl, ← Nat.two_pow_add_eq_or_of_lt (by omega) c]
  omega
theorem or64_3 (v c : Nat) (hv : v < 16777216) (hc : c < 256) : bits .or .i64 (v : Int) ((c : Int) * 16777216) = ((v + 16777216 * c : Nat) : Int) := by
  have h := bits_nat .i64 32 (by decide) wr32 v (16777216 * c) (by omega) (by omega)
  rw [show (((c : Int) * 16777216) : Int) = ((16777216 * c : Nat) : Int) from by omega, h.2, Nat.or_comm, show 16777216 = 2 ^ 24 from rfl, ← Nat.two_pow_add_eq_or_of_lt (by omega) c]
  omega

set_option maxRecDepth 100000 in
set_option maxHeartbeats 2000000 in
theorem number_calls (z : ByteArray) (n : Nat) (hz : z.size = n) (hn : n ≤ 4) (W : World) :
    Calls Tryd.prog 60 #[.string z] W fun e w' => e = .returned (.int .i64 (lo z n : Nat)) ∧ W = w' := by
  have hzi : (z.size : Int) = (n : Int) := by omega
  go_enter Tryd.func60, Tryd.ntmps60
  go_wp2_with fail
  go_loopg [3, 7] n (fun q vv iv wr => ∃ k : Nat, k ≤ n ∧ q = n - k ∧ vv = .int .i64 ((lo z k : Nat)) ∧ iv = .int .i64 k ∧ W = wr)
  case atStart => exact ⟨0, by omega, rfl, rfl, rfl, rfl⟩
  case round =>
    obtain ⟨k, hk, rfl, rfl, rfl, rfl⟩ := hrel
    by_cases hkn : k = n
    · subst hkn
      go_wp2
      go_ret
      exact ⟨rfl, rfl⟩
    have hlt : k < n := by omega
    clear hkn
    obtain rfl | rfl | rfl | rfl : k = 0 ∨ k = 1 ∨ k = 2 ∨ k = 3 := by omega
    · have hqb : 0 < z.size := by omega
      have hqb' : (0 : Int) < (z.size : Int) := by omega
      have hqn : (0 : Int) < (n : Int) := by omega
      have b255 := bn_lt z 0
      have st : lo z 1 = lo z 0 + 1 * bn z 0 := rfl
      have lt := lo_lt z 0
      obtain ⟨c, hcz⟩ : ∃ c, bn z 0 = c := ⟨_, rfl⟩
      obtain ⟨v, hv⟩ : ∃ v, lo z 0 = v := ⟨_, rfl⟩
      rw [hcz] at b255 st
      rw [hv] at lt st ⊢
      rw [← bn_at z 0 hqb] at hcz
      simp only [Nat.reducePow] at lt
      have OR := or64_0 v c (by omega) b255
      have SS := Lib.hid st
      have HZ := Lib.hid hz
      clear st lt hv hz
      go_wp2
      go_roundg (n - 1)
      case measure => omega
      case rel => exact ⟨1, by omega, rfl, by rw [SS.out]; go_num, by go_num, rfl⟩
    · have hqb : 1 < z.size := by omega
      have hqb' : (1 : Int) < (z.size : Int) := by omega
      have hqn : (1 : Int) < (n : Int) := by omega
      have b255 := bn_lt z 1
      have st : lo z 2 = lo z 1 + 256 * bn z 1 := rfl
      have lt := lo_lt z 1
      obtain ⟨c, hcz⟩ : ∃ c, bn z 1 = c := ⟨_, rfl⟩
      obtain ⟨v, hv⟩ : ∃ v, lo z 1 = v := ⟨_, rfl⟩
      rw [hcz] at b255 st
      rw [hv] at lt st ⊢
      rw [← bn_at z 1 hqb] at hcz
      simp only [Nat.reducePow] at lt
      have OR := or64_1 v c (by omega) b255
      have SS := Lib.hid st
      have HZ := Lib.hid hz
      clear st lt hv hz
      go_wp2
      go_roundg (n - 2)
      case measure => omega
      case rel => exact ⟨2, by omega, rfl, by rw [SS.out]; go_num, by go_num, rfl⟩
    · have hqb : 2 < z.size := by omega
      have hqb' : (2 : Int) < (z.size : Int) := by omega
      have hqn : (2 : Int) < (n : Int) := by omega
      have b255 := bn_lt z 2
      have st : lo z 3 = lo z 2 + 65536 * bn z 2 := rfl
      have lt := lo_lt z 2
      obtain ⟨c, hcz⟩ : ∃ c, bn z 2 = c := ⟨_, rfl⟩
      obtain ⟨v, hv⟩ : ∃ v, lo z 2 = v := ⟨_, rfl⟩
      rw [hcz] at b255 st
      rw [hv] at lt st ⊢
      rw [← bn_at z 2 hqb] at hcz
      simp only [Nat.reducePow] at lt
      have OR := or64_2 v c (by omega) b255
      have SS := Lib.hid st
      have HZ := Lib.hid hz
      clear st lt hv hz
      go_wp2
      go_roundg (n - 3)
      case measure => omega
      case rel => exact ⟨3, by omega, rfl, by rw [SS.out]; go_num, by go_num, rfl⟩
    · have hqb : 3 < z.size := by omega
      have hqb' : (3 : Int) < (z.size : Int) := by omega
      have hqn : (3 : Int) < (n : Int) := by omega
      have b255 := bn_lt z 3
      have st : lo z 4 = lo z 3 + 16777216 * bn z 3 := rfl
      have lt := lo_lt z 3
      obtain ⟨c, hcz⟩ : ∃ c, bn z 3 = c := ⟨_, rfl⟩
      obtain ⟨v, hv⟩ : ∃ v, lo z 3 = v := ⟨_, rfl⟩
      rw [hcz] at b255 st
      rw [hv] at lt st ⊢
      rw [← bn_at z 3 hqb] at hcz
      simp only [Nat.reducePow] at lt
      have OR := or64_3 v c (by omega) b255
      have SS := Lib.hid st
      have HZ := Lib.hid hz
      clear st lt hv hz
      go_wp2
      go_roundg (n - 4)
      case measure => omega
      case rel => exact ⟨4, by omega, rfl, by rw [SS.out]; go_num, by go_num, rfl⟩

set_option maxRecDepth 100000 in
theorem pair_calls (z : ByteArray) (a : Nat) (h : a + 2 ≤ z.size) (hm : z.size ≤ 9223372036854775807) (W : World) :
    Calls Tryd.prog 57 #[.string z, .int .i64 (a : Nat)] W fun e w' => e = .returned (.int .i64 (w2 z a : Nat)) ∧ W = w' := by
  have hs : (z.extract a (a + 2)).size = 2 := by rw [ByteArray.size_extract]; omega
  have K := fun u => number_calls (z.extract a (a + 2)) 2 hs (by omega) u
  rw [show lo (z.extract a (a + 2)) 2 = w2 z a from by rw [lo_2, w2_ext z a (a + 2) 0 h (by omega)]; rfl] at K
  have HC := fun w => cut_at z a 2 h w
  have hw : IntKind.i64.wrap ((a : Int) + 2) = (a : Int) + 2 := IntWalk.i64_in _ (by omega)
  obtain ⟨y, hy⟩ : ∃ y, z.extract a (a + 2) = y := ⟨_, rfl⟩
  obtain ⟨v, hv⟩ : ∃ v, w2 z a = v := ⟨_, rfl⟩
  obtain ⟨b, hb⟩ : ∃ b : Nat, a + 2 = b := ⟨_, rfl⟩
  have hbi : (a : Int) + (2 : Nat) = (b : Int) ∨ True := .inr trivial
  rw [hy] at K HC
  rw [hv] at K ⊢
  have K := Lib.hid K
  have HC : ∀ w, (Instr.slice 9 (.string z) (some (.int .i64 (a : Int))) (some (.int .i64 ((a : Int) + 2))) none).run Tryd.prog w = .ok (.string y) w := HC
  obtain ⟨q, hq⟩ : ∃ q : Int, (a : Int) + 2 = q := ⟨_, rfl⟩
  rw [hq] at HC hw
  clear hs hy hv hb hbi h hm
  go_enter Tryd.func57, Tryd.ntmps57
  go_wp2_with fail
  refine (K.out _).mono ?_
  rintro e w' ⟨rfl, rfl⟩
  go_wp2
  go_ret
  exact ⟨rfl, rfl⟩

def wrB (z : ByteArray) : Bool := decide (w2 z 0 ≠ 0 ∨ (w2 z 2 ≠ 1 ∧ w2 z 2 ≠ 2) ∨ w2 z 4 = 0)
def wrP (z : ByteArray) : Int := if w2 z 0 ≠ 0 then 0 else if w2 z 2 ≠ 1 ∧ w2 z 2 ≠ 2 then 2 else if w2 z 4 = 0 then 4 else 0

end Go.Proofs.YtibbebglbcjnmaaDoor.Id
