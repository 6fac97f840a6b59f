/- Layer 9: the document's bits of words, walked: bit, count, Of, Find. -/
import Derived.Test.YtljbhahdaepecaaDoorMas1
import Derived.Test.YtljbhahdaepecaaDoorSca1
namespace Go.Proofs.YtljbhahdaepecaaDoor.Ma
open Go.ChangeShapes Go.WideShapes Go.ChangeAt Go.RowKit
open Go.Proofs.YtljbhahdaepecaaDoor.Sc
set_option linter.unusedVariables false

theorem and_one_i (x : Int) : bits .and .i64 x 1 = x % 2 := by
  unfold bits
  show IntKind.i64.wrap (((BitVec.ofInt 64 x) &&& (BitVec.ofInt 64 1)).toNat : Int) = x % 2
  have h : ((BitVec.ofInt 64 x) &&& (BitVec.ofInt 64 1)).toNat = (x % 2).toNat := by
    rw [BitVec.toNat_and, BitVec.toNat_ofInt, BitVec.toNat_ofInt]
    have e : ((1 : Int) % ((2 ^ 64 : Nat) : Int)).toNat = 1 := by decide
    rw [e, Nat.and_one_is_mod]
    omega
  rw [h, IntKind.wrap_i64]
  omega

/-- Is bit i of a number 1? -/
def bitI (w : Int) (i : Nat) : Bool := w / 2 ^ i % 2 == 1
theorem bitI_nat (w i : Nat) : bitI (w : Int) i = decide (bitN w i = 1) := by
  unfold bitI bitN
  have e : (w : Int) / 2 ^ i % 2 = ((w / 2 ^ i % 2 : Nat) : Int) := by simp
  rw [e]
  by_cases h : w / 2 ^ i % 2 = 1
  · rw [h]; simp
  · have : w / 2 ^ i % 2 = 0 := by omega
    rw [this]; simp
/-- The lowest 32 bits. -/
def low32 (w : Int) : Nat := (w % 4294967296).toNat
theorem bitI_low (w : Int) (i : Nat) (hi : i < 32) : bitI w i = decide (bitN (low32 w) i = 1) := by
  rw [← bitI_nat]
  unfold bitI low32
  have h0 : 0 ≤ w % 4294967296 := Int.emod_nonneg _ (by decide)
  rw [Int.toNat_of_nonneg h0]
  obtain ⟨k, hk⟩ : ∃ k, 32 = i + 1 + k := ⟨31 - i, by omega⟩
  have e : (4294967296 : Int) = 2 ^ i * (2 * 2 ^ k) := by
    rw [show (4294967296 : Int) = 2 ^ 32 from by decide, hk, Int.pow_add, Int.pow_succ, Int.mul_assoc]
  have hw : w = w % 4294967296 + 4294967296 * (w / 4294967296) := (Int.emod_add_mul_ediv w 4294967296).symm
  have hd : w / 2 ^ i = (w % 4294967296) / 2 ^ i + 2 * (2 ^ k * (w / 4294967296)) := by
    have hp : (2 : Int) ^ i ≠ 0 := Int.ne_of_gt (Int.pow_pos (by decide))
    have e2 : w = w % 4294967296 + 2 ^ i * (2 * (2 ^ k * (w / 4294967296))) := by
      rw [← Int.mul_assoc 2, ← Int.mul_assoc (2 ^ i), ← e]; exact hw
    exact (congrArg (· / (2 : Int) ^ i) e2).trans (Int.add_mul_ediv_left _ _ hp)
  rw [hd]
  congr 1
  omega

theorem bit_calls (w : Int) (i : Nat) (W : World) (hi : i < 64) : Calls Tryd.prog 23 #[.int .i64 w, .int .i64 i] W fun e w' => e = .returned (.bool (bitI w i)) ∧ W = w' := by
  unfold bitI
  obtain ⟨q, hq⟩ : ∃ q, w / 2 ^ i = q := ⟨_, rfl⟩
  have ha := and_one_i q
  obtain ⟨r, hr⟩ : ∃ r, q % 2 = r := ⟨_, rfl⟩
  rw [hr] at ha
  rw [hq, hr]
  clear hr
  go_enter Tryd.func23, Tryd.ntmps23
  go_wp2
  go_ret
  exact ⟨rfl, rfl⟩

theorem cnt_le (w : Nat) : ∀ i, cnt w i ≤ i
  | 0 => Nat.le_refl _
  | i + 1 => by
    have := cnt_le w i
    have := bitN_lt w i
    show cnt w i + bitN w i ≤ i + 1
    omega

set_option maxRecDepth 100000 in
theorem count_calls (m : Nat) (W : World) : Calls Tryd.prog 34 #[.int .i64 m] W fun e w' => e = .returned (.int .i64 (cnt m 32)) ∧ W = w' := by
  obtain ⟨N, hN⟩ : ∃ N, cnt m 32 = N := ⟨_, rfl⟩
  have HN := Lib.hid hN
  rw [hN]
  clear hN
  go_enter Tryd.func34, Tryd.ntmps34
  go_wp2
  go_loop [3, 4] (fun v i => ∃ k c : Nat, k ≤ 32 ∧ i = .int .i64 (k : Int) ∧ v = .int .i64 (c : Int) ∧ cnt m k = c) (fun _ i => 32 - (intOf i).toNat)
  case atStart => exact ⟨0, 0, by omega, rfl, rfl, rfl⟩
  case round =>
    obtain ⟨k, c, hk, rfl, rfl, hc⟩ := hrel
    by_cases hlt : k < 32
    · have B := bit_calls m k W (by omega)
      rw [bitI_nat] at B
      have hcl := cnt_le m k
      have hs : cnt m (k + 1) = cnt m k + bitN m k := rfl
      have hb := bitN_lt m k
      by_cases h1 : bitN m k = 1
      · rw [decide_eq_true h1] at B
        have B' := Lib.hid B
        have HS := Lib.hid (show cnt m (k + 1) = c + 1 from by omega)
        have c32 : c ≤ 32 := by omega
        clear B hs h1 hc hcl hb
        go_wp2_with fail
        refine B'.out.mono ?_
        rintro e w' ⟨rfl, rfl⟩
        go_wp2
        go_round
        case rel => exact ⟨k + 1, c + 1, by omega, by go_num, by go_num, HS.out⟩
        case measure => simp [intOf]; omega
      · rw [decide_eq_false h1] at B
        have B' := Lib.hid B
        have HS := Lib.hid (show cnt m (k + 1) = c from by omega)
        clear B hs h1 hc hcl hb
        go_wp2_with fail
        refine B'.out.mono ?_
        rintro e w' ⟨rfl, rfl⟩
        go_wp2
        go_round
        case rel => exact ⟨k + 1, c, by omega, by go_num, rfl, HS.out⟩
        case measure => simp [intOf]; omega
    · have hk32 : k = 32 := by omega
      obtain rfl : c = N := by rw [← hc, ← HN.out, hk32]
      clear hc
      have hge : (32 : Int) ≤ k := by omega
      go_wp2
      go_ret
      exact ⟨rfl, rfl⟩

theorem chan_bd (w m : Nat) : ∀ i, (chan w m i).1 < (chan w m i).2 ∧ (chan w m i).2 ≤ 2 ^ i
  | 0 => by simp [chan]
  | i + 1 => by
    obtain ⟨a, b⟩ := chan_bd w m i
    have e : chan w m (i + 1) = if bitN m i = 1 then ((chan w m i).1 + (if bitN w i = 1 then (chan w m i).2 else 0), 2 * (chan w m i).2) else chan w m i := rfl
    have hp : 2 ^ (i + 1) = 2 * 2 ^ i := by rw [Nat.pow_succ]; omega
    rw [e, hp]
    split
    · refine ⟨?_, by show 2 * (chan w m i).2 ≤ _; omega⟩
      show (chan w m i).1 + (if bitN w i = 1 then (chan w m i).2 else 0) < 2 * (chan w m i).2
      split <;> omega
    · exact ⟨a, by omega⟩

set_option maxRecDepth 100000 in
theorem rof_calls (word : Int) (m : Nat) (W : World) : Calls Tryd.prog 13 #[.int .i64 word, .int .i64 m] W fun e w' => e = .returned (.int .i64 ((chan (low32 word) m 32).1 : Nat)) ∧ W = w' := by
  obtain ⟨N, hN⟩ : ∃ N, (chan (low32 word) m 32).1 = N := ⟨_, rfl⟩
  have HN := Lib.hid hN
  rw [hN]
  clear hN
  go_enter Tryd.func13, Tryd.ntmps13
  go_wp2
  go_loop [5, 6, 7] (fun v p i => ∃ k c d : Nat, k ≤ 32 ∧ i = .int .i64 (k : Int) ∧ v = .int .i64 (c : Int) ∧ p = .int .i64 (d : Int) ∧ chan (low32 word) m k = (c, d)) (fun _ _ i => 32 - (intOf i).toNat)
  case atStart => exact ⟨0, 0, 1, by omega, rfl, rfl, rfl, rfl⟩
  case round =>
    obtain ⟨k, c, d, hk, rfl, rfl, rfl, hc⟩ := hrel
    by_cases hlt : k < 32
    · have B := bit_calls m k W (by omega)
      rw [bitI_nat] at B
      have D := bit_calls word k W (by omega)
      rw [bitI_low word k hlt] at D
      obtain ⟨b1, b2⟩ := chan_bd (low32 word) m k
      rw [hc] at b1 b2
      have b3 : d ≤ 4294967296 := Nat.le_trans b2 (Nat.le_trans (Nat.pow_le_pow_right (by decide) hk) (by decide))
      have b4 : c < d := b1
      have hs : chan (low32 word) m (k + 1) = if bitN m k = 1 then ((chan (low32 word) m k).1 + (if bitN (low32 word) k = 1 then (chan (low32 word) m k).2 else 0), 2 * (chan (low32 word) m k).2) else chan (low32 word) m k := rfl
      rw [hc] at hs
      clear b1 b2 hc
      by_cases h1 : bitN m k = 1
      · rw [decide_eq_true h1] at B
        rw [if_pos h1] at hs
        have B' := Lib.hid B
        by_cases h2 : bitN (low32 word) k = 1
        · rw [decide_eq_true h2] at D
          rw [if_pos h2] at hs
          have D' := Lib.hid D
          have HS := Lib.hid hs
          clear B D hs h1 h2
          go_wp2_with fail
          refine B'.out.mono ?_
          rintro e w' ⟨rfl, rfl⟩
          go_wp2_with fail
          refine D'.out.mono ?_
          rintro e w' ⟨rfl, rfl⟩
          go_wp2
          go_round
          case rel => exact ⟨k + 1, c + d, 2 * d, by omega, by go_num, by go_num, by go_num, HS.out⟩
          case measure => simp [intOf]; omega
        · rw [decide_eq_false h2] at D
          rw [if_neg h2] at hs
          have D' := Lib.hid D
          have HS := Lib.hid hs
          clear B D hs h1 h2
          go_wp2_with fail
          refine B'.out.mono ?_
          rintro e w' ⟨rfl, rfl⟩
          go_wp2_with fail
          refine D'.out.mono ?_
          rintro e w' ⟨rfl, rfl⟩
          go_wp2
          go_round
          case rel => exact ⟨k + 1, c, 2 * d, by omega, by go_num, rfl, by go_num, HS.out⟩
          case measure => simp [intOf]; omega
      · rw [decide_eq_false h1] at B
        rw [if_neg h1] at hs
        have B' := Lib.hid B
        have HS := Lib.hid hs
        clear B D hs h1
        go_wp2_with fail
        refine B'.out.mono ?_
        rintro e w' ⟨rfl, rfl⟩
        go_wp2
        go_round
        case rel => exact ⟨k + 1, c, d, by omega, by go_num, rfl, rfl, HS.out⟩
        case measure => simp [intOf]; omega
    · have hk32 : k = 32 := by omega
      obtain rfl : c = N := by rw [← HN.out, ← hk32, hc]
      clear hc
      have hge : (32 : Int) ≤ k := by omega
      go_wp2
      go_ret
      exact ⟨rfl, rfl⟩

end Go.Proofs.YtljbhahdaepecaaDoor.Ma
