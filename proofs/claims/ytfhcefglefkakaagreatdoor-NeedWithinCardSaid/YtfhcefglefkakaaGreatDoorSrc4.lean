/- Package src: numbers are put together of bytes. -/
import Derived.Test.YtfhcefglefkakaaGreatDoorSrc3
import Derived.Deep.LoopGhost
import Derived.Laws.BitsAllLaws
import Derived.Lib.BufferWrite
import Derived.Lib.RabinKarpLaws
namespace Go.Proofs.YtfhcefglefkakaaGreatDoor.Sr
open Go.ChangeShapes Go.WideShapes Go.ChangeAt Go.RowKit
open Go.Proofs.YtfhcefglefkakaaGreatDoor.Le
set_option linter.unusedVariables false

/-- The number of some bytes, the highest first. -/
def acc (z : List UInt8) : Nat := z.foldl (fun v c => 256 * v + c.toNat) 0
/-- Bytes in the order in which they weigh, the highest first. -/
def ordd (o : Bool) (z : List UInt8) : List UInt8 := if o then z else z.reverse
theorem acc_snoc (z : List UInt8) (c : UInt8) : acc (z ++ [c]) = 256 * acc z + c.toNat := by simp [acc, List.foldl_append]
theorem acc_lt' (z : List UInt8) : acc z.reverse < 256 ^ z.length := by
  induction z with
  | nil => simp [acc]
  | cons c z ih =>
    rw [List.reverse_cons, acc_snoc, List.length_cons, Nat.pow_succ]
    have := c.toNat_lt
    omega
theorem acc_lt (z : List UInt8) : acc z < 256 ^ z.length := by
  have h := acc_lt' z.reverse
  rwa [List.reverse_reverse, List.length_reverse] at h
theorem ordd_len (o : Bool) (z : List UInt8) : (ordd o z).length = z.length := by unfold ordd; split <;> simp
/-- The number of bytes, in an order. -/
def numV (o : Bool) (z : ByteArray) : Nat := acc (ordd o z.data.toList)
/-- Which byte is taken in round k. -/
def nxt (o : Bool) (n k : Nat) : Nat := if o then k else n - 1 - k
theorem nxt_lt (o : Bool) {n k : Nat} (h : k < n) : nxt o n k < n := by unfold nxt; split <;> omega
theorem ordd_at (o : Bool) (z : List UInt8) (k : Nat) (h : k < z.length) : (ordd o z)[k]'(by rw [ordd_len]; exact h) = z[nxt o z.length k]'(nxt_lt o h) := by
  cases o with
  | true => rfl
  | false => simp [ordd, nxt, List.getElem_reverse]
theorem acc_step (o : Bool) (z : List UInt8) (k : Nat) (h : k < z.length) : acc ((ordd o z).take (k + 1)) = 256 * acc ((ordd o z).take k) + (z[nxt o z.length k]'(nxt_lt o h)).toNat := by
  rw [← ordd_at o z k h, List.take_succ_eq_append_getElem (by rw [ordd_len]; exact h), acc_snoc]

theorem wraps_u32 (n : Int) (h₀ : 0 ≤ n) (h₁ : n < 2 ^ 32) : IntKind.u32.wrap n = n := by rw [IntKind.wrap_u32]; omega
/-- A number moved on by a byte. -/
theorem or32 (v c : Nat) (hv : v < 16777216) (hc : c < 256) : bits .or .u32 ((v : Int) * 256 % 4294967296) (c : Int) = ((256 * v + c : Nat) : Int) := by
  rw [show (v : Int) * 256 % 4294967296 = v * 256 from by omega]
  have h := bits_join .u32 32 (by decide) wraps_u32 8 ((v : Int) * 256) (c : Int) (by omega) (by omega) (by omega) (by omega) (by omega) (by omega)
  omega

theorem acc_lt4 (z : List UInt8) (h : z.length ≤ 4) : acc z < 4294967296 :=
  Nat.lt_of_lt_of_le (acc_lt z) (Nat.le_trans (Nat.pow_le_pow_right (by decide) h) (by decide))

set_option maxRecDepth 100000 in
set_option maxHeartbeats 2000000 in
theorem read8_go (b l : Nat) (z : ByteArray) (n : Nat) (o : Bool) (w : World) (K : World → Prop) (hz : z.size = n) (hn : n ≤ 1)
    (hT : Calls Tryz.prog 50 #[.pointer (some ⟨b, 0, none⟩), .int .i64 n] w fun e w' => e = .returned (.tuple #[.string z, .bool true]) ∧ K w') :
    Calls Tryz.prog 150 #[.pointer (some ⟨b, 0, none⟩), .int .i64 n, .bool o] w
      fun e w' => e = .returned (.tuple #[.int .i64 (numV o z), .bool true]) ∧ K w' := by
  have hK := Lib.hid hT
  clear hT
  go_enter Tryz.func150, Tryz.ntmps150
  go_wp2_with fail
  refine hK.out.mono ?_
  rintro e w1 ⟨rfl, hw⟩
  have HW := Lib.hid hw
  clear hw
  go_wp2_with fail
  go_loopg [10, 22] n (fun q vv iv wr => ∃ k : Nat, k ≤ n ∧ q = n - k ∧ vv = .int .u32 (acc ((ordd o z.data.toList).take k)) ∧ iv = .int .i64 k ∧ w1 = wr)
  case atStart => exact ⟨0, by omega, rfl, rfl, rfl, rfl⟩
  case round =>
    obtain ⟨k, hk, rfl, rfl, rfl, rfl⟩ := hrel
    have hl := Lib.size_eq z
    by_cases hlt : k < n
    · have st := acc_step o z.data.toList k (by omega)
      have lt := Nat.lt_of_lt_of_le (acc_lt ((ordd o z.data.toList).take k)) (Nat.pow_le_pow_right (by decide) (show _ ≤ 3 from by rw [List.length_take]; omega))
      obtain ⟨v, hv⟩ : ∃ v, acc ((ordd o z.data.toList).take k) = v := ⟨_, rfl⟩
      rw [hv] at st lt ⊢
      have ST := Lib.hid st
      have LT := Lib.hid lt
      clear st lt hv
      cases o with
      | true =>
        have hi : nxt true z.data.toList.length k = k := rfl
        have st' := ST.out
        simp only [hi] at st'
        rw [byte_at' z k (by omega) (by omega)] at st'
        have b255 := (z[k]'(by omega)).toNat_lt
        obtain ⟨c, hcz⟩ : ∃ c, (z[k]'(by omega)).toNat = c := ⟨_, rfl⟩
        rw [hcz] at st' b255
        have OR := or32 v c (by have := LT.out; omega) b255
        have SS := Lib.hid st'
        clear st'
        go_wp2
        go_roundg (n - (k + 1))
        case measure => omega
        case rel => exact ⟨k + 1, by omega, rfl, by rw [SS.out]; go_num, by go_num, rfl⟩
      | false =>
        have hi : nxt false z.data.toList.length k = 0 := by unfold nxt; rw [if_neg (by decide)]; omega
        have st' := ST.out
        simp only [hi] at st'
        rw [byte_at' z 0 (by omega) (by omega)] at st'
        have b255 := (z[0]'(by omega)).toNat_lt
        obtain ⟨c, hcz⟩ : ∃ c, (z[0]'(by omega)).toNat = c := ⟨_, rfl⟩
        rw [hcz] at st' b255
        have OR := or32 v c (by have := LT.out; omega) b255
        have SS := Lib.hid st'
        clear st'
        go_wp2
        go_roundg (n - (k + 1))
        case measure => omega
        case rel => exact ⟨k + 1, by omega, rfl, by rw [SS.out]; go_num, by go_num, rfl⟩
    · have hkn : k = n := by omega
      subst hkn
      have e1 : (ordd o z.data.toList).take k = ordd o z.data.toList := List.take_of_length_le (by rw [ordd_len, ← hl, hz]; exact Nat.le_refl _)
      rw [e1]
      have lt : acc (ordd o z.data.toList) < 256 := Nat.lt_of_lt_of_le (acc_lt _) (Nat.pow_le_pow_right (by decide) (show _ ≤ 1 from by rw [ordd_len]; omega))
      have e2 : wrap64 (acc (ordd o z.data.toList) : Int) = acc (ordd o z.data.toList) := IntWalk.wrap64_in _ (by omega)
      go_wp2
      go_ret2
      exact ⟨rfl, HW.out⟩

/-- A number of four bytes with a sign. -/
def sgn (v : Nat) : Int := if 2147483648 ≤ v then (v : Int) - 4294967296 else v
theorem sgn_is (v : Nat) (h : v < 4294967296) : wrap32 (v : Int) = sgn v := by
  unfold sgn wrap32
  split <;> omega
theorem sgn_in (v : Nat) (h : v < 4294967296) : -9223372036854775808 ≤ sgn v ∧ sgn v ≤ 9223372036854775807 := by
  unfold sgn
  split <;> omega

end Go.Proofs.YtfhcefglefkakaaGreatDoor.Sr
