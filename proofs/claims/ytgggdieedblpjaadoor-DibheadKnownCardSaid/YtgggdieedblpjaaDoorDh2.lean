/- Layer 20: a head's numbers, walked (written by wip/gen/dh2.py). -/
import Derived.Test.YtgggdieedblpjaaDoorDh1
namespace Go.Proofs.YtgggdieedblpjaaDoor.Dh
open Go.ChangeShapes Go.WideShapes Go.ChangeAt Go.RowKit
open Go.Proofs.YtgggdieedblpjaaDoor.Le Go.Proofs.YtgggdieedblpjaaDoor.Sr
set_option linter.unusedVariables false

/-- The first k bytes of a number. -/
def lo (s : ByteArray) (a : Nat) : Nat → Nat
  | 0 => 0
  | k + 1 => lo s a k + 256 ^ k * bn s (a + k)
theorem lo_lt (s : ByteArray) (a : Nat) : ∀ k, lo s a k < 256 ^ k
  | 0 => Nat.zero_lt_one
  | k + 1 => by
    have h1 := lo_lt s a k
    have h2 : 256 ^ k * bn s (a + k) ≤ 256 ^ k * 255 := Nat.mul_le_mul_left _ (by have := bn_lt s (a + k); omega)
    show lo s a k + _ < 256 ^ k * 256
    omega
theorem lo_2 (s : ByteArray) (a : Nat) : lo s a 2 = w2 s a := by
  simp only [lo, w2, Nat.add_zero]
  omega
theorem lo_4 (s : ByteArray) (a : Nat) : lo s a 4 = w4 s a := by
  simp only [lo, w4, Nat.add_zero]
  omega
theorem wraps_u16 (n : Int) (h₀ : 0 ≤ n) (h₁ : n < 2 ^ 16) : IntKind.u16.wrap n = n := by simp [IntKind.wrap, IntKind.bits, IntKind.signed]; omega
theorem or32_0 (v c : Nat) (hv : v < 1) (hc : c < 256) : bits .or .u32 (v : Int) (c : Int) = ((v + 1 * c : Nat) : Int) := by
  have h := bits_nat .u32 32 (by decide) wraps_u32 v (1 * c) (by omega) (by omega)
  rw [show (c : Int) = ((1 * c : Nat) : Int) from by omega, h.2, Nat.or_comm, show 1 = 2 ^ 0 from rfl, ← Nat.two_pow_add_eq_or_of_lt (by omega) c]
  omega
theorem or32_1 (v c : Nat) (hv : v < 256) (hc : c < 256) : bits .or .u32 (v : Int) ((c : Int) * 256) = ((v + 256 * c : Nat) : Int) := by
  have h := bits_nat .u32 32 (by decide) wraps_u32 v (256 * c) (by omega) (by omega)
  rw [show ((c : Int) * 256) = ((256 * c : Nat) : Int) from by omega, h.2, Nat.or_comm, show 256 = 2 ^ 8 from rfl, ← Nat.two_pow_add_eq_or_of_lt (by omega) c]
  omega
theorem or32_2 (v c : Nat) (hv : v < 65536) (hc : c < 256) : bits .or .u32 (v : Int) ((c : Int) * 65536) = ((v + 65536 * c : Nat) : Int) := by
  have h := bits_nat .u32 32 (by decide) wraps_u32 v (65536 * c) (by omega) (by omega)
  rw [show ((c : Int) * 65536) = ((65536 * c : Nat) : Int) from by omega, h.2, Nat.or_comm, show 65536 = 2 ^ 16 from rfl, ← Nat.two_pow_add_eq_or_of_lt (by omega) c]
  omega
theorem or32_3 (v c : Nat) (hv : v < 16777216) (hc : c < 256) : bits .or .u32 (v : Int) ((c : Int) * 16777216) = ((v + 16777216 * c : Nat) : Int) := by
  have h := bits_nat .u32 32 (by decide) wraps_u32 v (16777216 * c) (by omega) (by omega)
  rw [show ((c : Int) * 16777216) = ((16777216 * c : Nat) : Int) from by omega, h.2, Nat.or_comm, show 16777216 = 2 ^ 24 from rfl, ← Nat.two_pow_add_eq_or_of_lt (by omega) c]
  omega
theorem or16_0 (v c : Nat) (hv : v < 1) (hc : c < 256) : bits .or .u16 (v : Int) (c : Int) = ((v + 1 * c : Nat) : Int) := by
  have h := bits_nat .u16 16 (by decide) wraps_u16 v (1 * c) (by omega) (by omega)
  rw [show (c : Int) = ((1 * c : Nat) : Int) from by omega, h.2, Nat.or_comm, show 1 = 2 ^ 0 from rfl, ← Nat.two_pow_add_eq_or_of_lt (by omega) c]
  omega
theorem or16_1 (v c : Nat) (hv : v < 256) (hc : c < 256) : bits .or .u16 (v : Int) ((c : Int) * 256) = ((v + 256 * c : Nat) : Int) := by
  have h := bits_nat .u16 16 (by decide) wraps_u16 v (256 * c) (by omega) (by omega)
  rw [show ((c : Int) * 256) = ((256 * c : Nat) : Int) from by omega, h.2, Nat.or_comm, show 256 = 2 ^ 8 from rfl, ← Nat.two_pow_add_eq_or_of_lt (by omega) c]
  omega
theorem ofInt_wrap (x : Int) : BitVec.ofInt 32 (IntKind.i32.wrap x) = BitVec.ofInt 32 x := by
  rw [IntKind.wrap_i32]
  apply BitVec.eq_of_toInt_eq
  simp only [BitVec.toInt_ofInt]
  rw [Int.bmod_def, Int.bmod_def]
  have : ((x + 2147483648) % 4294967296 - 2147483648) % ((2 ^ 32 : Nat) : Int) = x % ((2 ^ 32 : Nat) : Int) := by omega
  rw [this]
theorem ori_wrap (v y : Nat) (x : Int) (hx : IntKind.i32.wrap (y : Int) = x) (hv : v < 4294967296) (hy : y < 4294967296) : bits .or .i32 (v : Int) x = IntKind.i32.wrap ((v ||| y : Nat) : Int) := by
  subst hx
  show IntKind.i32.wrap ((BitVec.ofInt 32 (v : Int) ||| BitVec.ofInt 32 (IntKind.i32.wrap (y : Int))).toNat : Int) = _
  rw [ofInt_wrap]
  simp only [BitVec.ofInt_natCast, BitVec.toNat_or, BitVec.toNat_ofNat]
  rw [Nat.mod_eq_of_lt hv, Nat.mod_eq_of_lt hy]
theorem ori_0 (v c : Nat) (hv : v < 1) (hc : c < 256) : bits .or .i32 (v : Int) (c : Int) = IntKind.i32.wrap ((v + 1 * c : Nat) : Int) := by
  rw [ori_wrap v (1 * c) (c : Int) (by rw [IntKind.wrap_i32]; omega) (by omega) (by omega), Nat.or_comm, show 1 = 2 ^ 0 from rfl, ← Nat.two_pow_add_eq_or_of_lt (by omega) c]
  congr 2
  omega
theorem ori_1 (v c : Nat) (hv : v < 256) (hc : c < 256) : bits .or .i32 (v : Int) ((c : Int) * 256) = IntKind.i32.wrap ((v + 256 * c : Nat) : Int) := by
  rw [ori_wrap v (256 * c) ((c : Int) * 256) (by rw [IntKind.wrap_i32]; omega) (by omega) (by omega), Nat.or_comm, show 256 = 2 ^ 8 from rfl, ← Nat.two_pow_add_eq_or_of_lt (by omega) c]
  congr 2
  omega
theorem ori_2 (v c : Nat) (hv : v < 65536) (hc : c < 256) : bits .or .i32 (v : Int) ((c : Int) * 65536) = IntKind.i32.wrap ((v + 65536 * c : Nat) : Int) := by
  rw [ori_wrap v (65536 * c) ((c : Int) * 65536) (by rw [IntKind.wrap_i32]; omega) (by omega) (by omega), Nat.or_comm, show 65536 = 2 ^ 16 from rfl, ← Nat.two_pow_add_eq_or_of_lt (by omega) c]
  congr 2
  omega
theorem ori_3 (v c : Nat) (hv : v < 16777216) (hc : c < 256) : bits .or .i32 (v : Int) (wrap32 ((c : Int) * 16777216)) = IntKind.i32.wrap ((v + 16777216 * c : Nat) : Int) := by
  rw [ori_wrap v (16777216 * c) (wrap32 ((c : Int) * 16777216)) (by rw [IntKind.wrap_i32]; simp only [wrap32]; omega) (by omega) (by omega), Nat.or_comm, show 16777216 = 2 ^ 24 from rfl, ← Nat.two_pow_add_eq_or_of_lt (by omega) c]
  congr 2
  omega

set_option maxRecDepth 100000 in
set_option maxHeartbeats 2000000 in
theorem n32_calls (b : ByteArray) (a : Nat) (W : World) (h : a + 4 ≤ b.size) (hm : b.size ≤ 9223372036854775807) :
    Calls Tryd.prog 44 #[.string b, .int .i64 a, .int .i64 4] W fun e w' => e = .returned (.int .i64 ((w4 b a : Nat))) ∧ W = w' := by
  go_enter Tryd.func44, Tryd.ntmps44
  go_wp2_with fail
  go_loopg [7, 11] 4 (fun q vv iv wr => ∃ k : Nat, k ≤ 4 ∧ q = 4 - k ∧ vv = .int .u32 ((lo b a k : Nat)) ∧ iv = .int .i64 k ∧ W = wr)
  case atStart => exact ⟨0, by omega, rfl, rfl, rfl, rfl⟩
  case round =>
    obtain ⟨k, hk, rfl, rfl, rfl, rfl⟩ := hrel
    obtain rfl | rfl | rfl | rfl | rfl : k = 0 ∨ k = 1 ∨ k = 2 ∨ k = 3 ∨ k = 4 := by omega
    · obtain ⟨q, hq⟩ : ∃ q : Nat, a + 0 = q := ⟨_, rfl⟩
      have hqi : (a : Int) + 0 = (q : Int) := by omega
      have hqw : IntKind.i64.wrap (q : Int) = (q : Int) := IntWalk.i64_in _ (by omega)
      have hqb : q < b.size := by omega
      have hqb' : (q : Int) < (b.size : Int) := by omega
      have b255 := bn_lt b q
      have st : lo b a 1 = lo b a 0 + 1 * bn b q := by rw [← hq]; rfl
      have lt := lo_lt b a 0
      obtain ⟨c, hcz⟩ : ∃ c, bn b q = c := ⟨_, rfl⟩
      obtain ⟨v, hv⟩ : ∃ v, lo b a 0 = v := ⟨_, rfl⟩
      rw [hcz] at b255 st
      rw [hv] at lt st ⊢
      rw [← bn_at b q hqb] at hcz
      simp only [Nat.reducePow] at lt
      have OR := or32_0 v c (by omega) b255
      have SS := Lib.hid st
      clear st lt hv hq
      go_wp2
      go_roundg (4 - 1)
      case measure => omega
      case rel => exact ⟨1, by omega, rfl, by rw [SS.out]; first | go_num | exact congrArg (Value.int IntKind.i32) (by simp only [wrap32, IntKind.wrap_i32]; omega), by go_num, rfl⟩
    · obtain ⟨q, hq⟩ : ∃ q : Nat, a + 1 = q := ⟨_, rfl⟩
      have hqi : (a : Int) + 1 = (q : Int) := by omega
      have hqw : IntKind.i64.wrap (q : Int) = (q : Int) := IntWalk.i64_in _ (by omega)
      have hqb : q < b.size := by omega
      have hqb' : (q : Int) < (b.size : Int) := by omega
      have b255 := bn_lt b q
      have st : lo b a 2 = lo b a 1 + 256 * bn b q := by rw [← hq]; rfl
      have lt := lo_lt b a 1
      obtain ⟨c, hcz⟩ : ∃ c, bn b q = c := ⟨_, rfl⟩
      obtain ⟨v, hv⟩ : ∃ v, lo b a 1 = v := ⟨_, rfl⟩
      rw [hcz] at b255 st
      rw [hv] at lt st ⊢
      rw [← bn_at b q hqb] at hcz
      simp only [Nat.reducePow] at lt
      have OR := or32_1 v c (by omega) b255
      have SS := Lib.hid st
      clear st lt hv hq
      go_wp2
      go_roundg (4 - 2)
      case measure => omega
      case rel => exact ⟨2, by omega, rfl, by rw [SS.out]; first | go_num | exact congrArg (Value.int IntKind.i32) (by simp only [wrap32, IntKind.wrap_i32]; omega), by go_num, rfl⟩
    · obtain ⟨q, hq⟩ : ∃ q : Nat, a + 2 = q := ⟨_, rfl⟩
      have hqi : (a : Int) + 2 = (q : Int) := by omega
      have hqw : IntKind.i64.wrap (q : Int) = (q : Int) := IntWalk.i64_in _ (by omega)
      have hqb : q < b.size := by omega
      have hqb' : (q : Int) < (b.size : Int) := by omega
      have b255 := bn_lt b q
      have st : lo b a 3 = lo b a 2 + 65536 * bn b q := by rw [← hq]; rfl
      have lt := lo_lt b a 2
      obtain ⟨c, hcz⟩ : ∃ c, bn b q = c := ⟨_, rfl⟩
      obtain ⟨v, hv⟩ : ∃ v, lo b a 2 = v := ⟨_, rfl⟩
      rw [hcz] at b255 st
      rw [hv] at lt st ⊢
      rw [← bn_at b q hqb] at hcz
      simp only [Nat.reducePow] at lt
      have OR := or32_2 v c (by omega) b255
      have SS := Lib.hid st
      clear st lt hv hq
      go_wp2
      go_roundg (4 - 3)
      case measure => omega
      case rel => exact ⟨3, by omega, rfl, by rw [SS.out]; first | go_num | exact congrArg (Value.int IntKind.i32) (by simp only [wrap32, IntKind.wrap_i32]; omega), by go_num, rfl⟩
    · obtain ⟨q, hq⟩ : ∃ q : Nat, a + 3 = q := ⟨_, rfl⟩
      have hqi : (a : Int) + 3 = (q : Int) := by omega
      have hqw : IntKind.i64.wrap (q : Int) = (q : Int) := IntWalk.i64_in _ (by omega)
      have hqb : q < b.size := by omega
      have hqb' : (q : Int) < (b.size : Int) := by omega
      have b255 := bn_lt b q
      have st : lo b a 4 = lo b a 3 + 16777216 * bn b q := by rw [← hq]; rfl
      have lt := lo_lt b a 3
      obtain ⟨c, hcz⟩ : ∃ c, bn b q = c := ⟨_, rfl⟩
      obtain ⟨v, hv⟩ : ∃ v, lo b a 3 = v := ⟨_, rfl⟩
      rw [hcz] at b255 st
      rw [hv] at lt st ⊢
      rw [← bn_at b q hqb] at hcz
      simp only [Nat.reducePow] at lt
      have OR := or32_3 v c (by omega) b255
      have SS := Lib.hid st
      clear st lt hv hq
      go_wp2
      go_roundg (4 - 4)
      case measure => omega
      case rel => exact ⟨4, by omega, rfl, by rw [SS.out]; first | go_num | exact congrArg (Value.int IntKind.i32) (by simp only [wrap32, IntKind.wrap_i32]; omega), by go_num, rfl⟩
    · rw [lo_4]
      have lt := w4_lt b a
      obtain ⟨v, hv⟩ : ∃ v, w4 b a = v := ⟨_, rfl⟩
      rw [hv] at lt ⊢
      have HV := Lib.hid hv
      clear hv
      have e2 : wrap64 (v : Int) = v := IntWalk.wrap64_in _ (by omega)
      go_wp2
      go_ret
      exact ⟨by rw [HV.out]; rfl, rfl⟩

set_option maxRecDepth 100000 in
set_option maxHeartbeats 2000000 in
theorem n16_calls (b : ByteArray) (a : Nat) (W : World) (h : a + 2 ≤ b.size) (hm : b.size ≤ 9223372036854775807) :
    Calls Tryd.prog 46 #[.string b, .int .i64 a, .int .i64 2] W fun e w' => e = .returned (.int .i64 ((w2 b a : Nat))) ∧ W = w' := by
  go_enter Tryd.func46, Tryd.ntmps46
  go_wp2_with fail
  go_loopg [7, 11] 2 (fun q vv iv wr => ∃ k : Nat, k ≤ 2 ∧ q = 2 - k ∧ vv = .int .u16 ((lo b a k : Nat)) ∧ iv = .int .i64 k ∧ W = wr)
  case atStart => exact ⟨0, by omega, rfl, rfl, rfl, rfl⟩
  case round =>
    obtain ⟨k, hk, rfl, rfl, rfl, rfl⟩ := hrel
    obtain rfl | rfl | rfl : k = 0 ∨ k = 1 ∨ k = 2 := by omega
    · obtain ⟨q, hq⟩ : ∃ q : Nat, a + 0 = q := ⟨_, rfl⟩
      have hqi : (a : Int) + 0 = (q : Int) := by omega
      have hqw : IntKind.i64.wrap (q : Int) = (q : Int) := IntWalk.i64_in _ (by omega)
      have hqb : q < b.size := by omega
      have hqb' : (q : Int) < (b.size : Int) := by omega
      have b255 := bn_lt b q
      have st : lo b a 1 = lo b a 0 + 1 * bn b q := by rw [← hq]; rfl
      have lt := lo_lt b a 0
      obtain ⟨c, hcz⟩ : ∃ c, bn b q = c := ⟨_, rfl⟩
      obtain ⟨v, hv⟩ : ∃ v, lo b a 0 = v := ⟨_, rfl⟩
      rw [hcz] at b255 st
      rw [hv] at lt st ⊢
      rw [← bn_at b q hqb] at hcz
      simp only [Nat.reducePow] at lt
      have OR := or16_0 v c (by omega) b255
      have SS := Lib.hid st
      clear st lt hv hq
      go_wp2
      go_roundg (2 - 1)
      case measure => omega
      case rel => exact ⟨1, by omega, rfl, by rw [SS.out]; first | go_num | exact congrArg (Value.int IntKind.i32) (by simp only [wrap32, IntKind.wrap_i32]; omega), by go_num, rfl⟩
    · obtain ⟨q, hq⟩ : ∃ q : Nat, a + 1 = q := ⟨_, rfl⟩
      have hqi : (a : Int) + 1 = (q : Int) := by omega
      have hqw : IntKind.i64.wrap (q : Int) = (q : Int) := IntWalk.i64_in _ (by omega)
      have hqb : q < b.size := by omega
      have hqb' : (q : Int) < (b.size : Int) := by omega
      have b255 := bn_lt b q
      have st : lo b a 2 = lo b a 1 + 256 * bn b q := by rw [← hq]; rfl
      have lt := lo_lt b a 1
      obtain ⟨c, hcz⟩ : ∃ c, bn b q = c := ⟨_, rfl⟩
      obtain ⟨v, hv⟩ : ∃ v, lo b a 1 = v := ⟨_, rfl⟩
      rw [hcz] at b255 st
      rw [hv] at lt st ⊢
      rw [← bn_at b q hqb] at hcz
      simp only [Nat.reducePow] at lt
      have OR := or16_1 v c (by omega) b255
      have SS := Lib.hid st
      clear st lt hv hq
      go_wp2
      go_roundg (2 - 2)
      case measure => omega
      case rel => exact ⟨2, by omega, rfl, by rw [SS.out]; first | go_num | exact congrArg (Value.int IntKind.i32) (by simp only [wrap32, IntKind.wrap_i32]; omega), by go_num, rfl⟩
    · rw [lo_2]
      have lt := w2_lt b a
      obtain ⟨v, hv⟩ : ∃ v, w2 b a = v := ⟨_, rfl⟩
      rw [hv] at lt ⊢
      have HV := Lib.hid hv
      clear hv
      have e2 : wrap64 (v : Int) = v := IntWalk.wrap64_in _ (by omega)
      go_wp2
      go_ret
      exact ⟨by rw [HV.out]; rfl, rfl⟩

set_option maxRecDepth 100000 in
set_option maxHeartbeats 2000000 in
theorem nS32_calls (b : ByteArray) (a : Nat) (W : World) (h : a + 4 ≤ b.size) (hm : b.size ≤ 9223372036854775807) :
    Calls Tryd.prog 47 #[.string b, .int .i64 a, .int .i64 4] W fun e w' => e = .returned (.int .i64 (sgn (w4 b a))) ∧ W = w' := by
  go_enter Tryd.func47, Tryd.ntmps47
  go_wp2_with fail
  go_loopg [7, 11] 4 (fun q vv iv wr => ∃ k : Nat, k ≤ 4 ∧ q = 4 - k ∧ vv = .int .i32 (IntKind.i32.wrap (lo b a k : Nat)) ∧ iv = .int .i64 k ∧ W = wr)
  case atStart => exact ⟨0, by omega, rfl, rfl, rfl, rfl⟩
  case round =>
    obtain ⟨k, hk, rfl, rfl, rfl, rfl⟩ := hrel
    obtain rfl | rfl | rfl | rfl | rfl : k = 0 ∨ k = 1 ∨ k = 2 ∨ k = 3 ∨ k = 4 := by omega
    · obtain ⟨q, hq⟩ : ∃ q : Nat, a + 0 = q := ⟨_, rfl⟩
      have hqi : (a : Int) + 0 = (q : Int) := by omega
      have hqw : IntKind.i64.wrap (q : Int) = (q : Int) := IntWalk.i64_in _ (by omega)
      have hqb : q < b.size := by omega
      have hqb' : (q : Int) < (b.size : Int) := by omega
      have b255 := bn_lt b q
      have st : lo b a 1 = lo b a 0 + 1 * bn b q := by rw [← hq]; rfl
      have lt := lo_lt b a 0
      obtain ⟨c, hcz⟩ : ∃ c, bn b q = c := ⟨_, rfl⟩
      obtain ⟨v, hv⟩ : ∃ v, lo b a 0 = v := ⟨_, rfl⟩
      rw [hcz] at b255 st
      rw [hv] at lt st ⊢
      rw [← bn_at b q hqb] at hcz
      simp only [Nat.reducePow] at lt
      have WV : IntKind.i32.wrap (v : Int) = v := by rw [IntKind.wrap_i32]; omega
      have OR := ori_0 v c (by omega) b255
      rw [WV]
      have SS := Lib.hid st
      clear st lt hv hq
      go_wp2
      go_roundg (4 - 1)
      case measure => omega
      case rel => exact ⟨1, by omega, rfl, by rw [SS.out]; first | go_num | exact congrArg (Value.int IntKind.i32) (by simp only [wrap32, IntKind.wrap_i32]; omega), by go_num, rfl⟩
    · obtain ⟨q, hq⟩ : ∃ q : Nat, a + 1 = q := ⟨_, rfl⟩
      have hqi : (a : Int) + 1 = (q : Int) := by omega
      have hqw : IntKind.i64.wrap (q : Int) = (q : Int) := IntWalk.i64_in _ (by omega)
      have hqb : q < b.size := by omega
      have hqb' : (q : Int) < (b.size : Int) := by omega
      have b255 := bn_lt b q
      have st : lo b a 2 = lo b a 1 + 256 * bn b q := by rw [← hq]; rfl
      have lt := lo_lt b a 1
      obtain ⟨c, hcz⟩ : ∃ c, bn b q = c := ⟨_, rfl⟩
      obtain ⟨v, hv⟩ : ∃ v, lo b a 1 = v := ⟨_, rfl⟩
      rw [hcz] at b255 st
      rw [hv] at lt st ⊢
      rw [← bn_at b q hqb] at hcz
      simp only [Nat.reducePow] at lt
      have WV : IntKind.i32.wrap (v : Int) = v := by rw [IntKind.wrap_i32]; omega
      have OR := ori_1 v c (by omega) b255
      rw [WV]
      have SS := Lib.hid st
      clear st lt hv hq
      go_wp2
      go_roundg (4 - 2)
      case measure => omega
      case rel => exact ⟨2, by omega, rfl, by rw [SS.out]; first | go_num | exact congrArg (Value.int IntKind.i32) (by simp only [wrap32, IntKind.wrap_i32]; omega), by go_num, rfl⟩
    · obtain ⟨q, hq⟩ : ∃ q : Nat, a + 2 = q := ⟨_, rfl⟩
      have hqi : (a : Int) + 2 = (q : Int) := by omega
      have hqw : IntKind.i64.wrap (q : Int) = (q : Int) := IntWalk.i64_in _ (by omega)
      have hqb : q < b.size := by omega
      have hqb' : (q : Int) < (b.size : Int) := by omega
      have b255 := bn_lt b q
      have st : lo b a 3 = lo b a 2 + 65536 * bn b q := by rw [← hq]; rfl
      have lt := lo_lt b a 2
      obtain ⟨c, hcz⟩ : ∃ c, bn b q = c := ⟨_, rfl⟩
      obtain ⟨v, hv⟩ : ∃ v, lo b a 2 = v := ⟨_, rfl⟩
      rw [hcz] at b255 st
      rw [hv] at lt st ⊢
      rw [← bn_at b q hqb] at hcz
      simp only [Nat.reducePow] at lt
      have WV : IntKind.i32.wrap (v : Int) = v := by rw [IntKind.wrap_i32]; omega
      have OR := ori_2 v c (by omega) b255
      rw [WV]
      have SS := Lib.hid st
      clear st lt hv hq
      go_wp2
      go_roundg (4 - 3)
      case measure => omega
      case rel => exact ⟨3, by omega, rfl, by rw [SS.out]; first | go_num | exact congrArg (Value.int IntKind.i32) (by simp only [wrap32, IntKind.wrap_i32]; omega), by go_num, rfl⟩
    · obtain ⟨q, hq⟩ : ∃ q : Nat, a + 3 = q := ⟨_, rfl⟩
      have hqi : (a : Int) + 3 = (q : Int) := by omega
      have hqw : IntKind.i64.wrap (q : Int) = (q : Int) := IntWalk.i64_in _ (by omega)
      have hqb : q < b.size := by omega
      have hqb' : (q : Int) < (b.size : Int) := by omega
      have b255 := bn_lt b q
      have st : lo b a 4 = lo b a 3 + 16777216 * bn b q := by rw [← hq]; rfl
      have lt := lo_lt b a 3
      obtain ⟨c, hcz⟩ : ∃ c, bn b q = c := ⟨_, rfl⟩
      obtain ⟨v, hv⟩ : ∃ v, lo b a 3 = v := ⟨_, rfl⟩
      rw [hcz] at b255 st
      rw [hv] at lt st ⊢
      rw [← bn_at b q hqb] at hcz
      simp only [Nat.reducePow] at lt
      have WV : IntKind.i32.wrap (v : Int) = v := by rw [IntKind.wrap_i32]; omega
      have OR := ori_3 v c (by omega) b255
      rw [WV]
      have SS := Lib.hid st
      clear st lt hv hq
      go_wp2
      go_roundg (4 - 4)
      case measure => omega
      case rel => exact ⟨4, by omega, rfl, by rw [SS.out]; first | go_num | exact congrArg (Value.int IntKind.i32) (by simp only [wrap32, IntKind.wrap_i32]; omega), by go_num, rfl⟩
    · rw [lo_4]
      have lt := w4_lt b a
      rw [show IntKind.i32.wrap ((w4 b a : Nat) : Int) = sgn (w4 b a) from by rw [IntKind.wrap_i32]; unfold sgn; split <;> omega]
      have lt2 : -2147483648 ≤ sgn (w4 b a) ∧ sgn (w4 b a) ≤ 2147483647 := by unfold sgn; split <;> omega
      obtain ⟨v, hv⟩ : ∃ v, sgn (w4 b a) = v := ⟨_, rfl⟩
      rw [hv] at lt2 ⊢
      clear lt
      have HV := Lib.hid hv
      clear hv
      have e2 : wrap64 (v : Int) = v := IntWalk.wrap64_in _ (by omega)
      go_wp2
      go_ret
      exact ⟨by rw [HV.out]; rfl, rfl⟩

end Go.Proofs.YtgggdieedblpjaaDoor.Dh
