/- Layer 21: the code's put, where numbers have less than eight bits. -/
import Derived.Test.YtafglaiclpdhnaaRw1
import Derived.Deep.CutRange
import Derived.Deep.Cut
namespace Go.Proofs.Ytafglaiclpdhnaa.Rw
open Go.ChangeShapes Go.WideShapes Go.ChangeAt Go.RowKit
open Go.Proofs.Ytafglaiclpdhnaa.Le
set_option linter.unusedVariables false

/-- Bits that do not meet are joined by a sum. -/
theorem or_add (a b : Int) (k : Nat) (hk : k ≤ 8) (ha : 0 ≤ a ∧ a ≤ 255) (hm : a % 2 ^ k = 0) (hb : 0 ≤ b ∧ b < 2 ^ k) : bits .or .u8 a b = a + b := by
  obtain ⟨x, rfl⟩ : ∃ x : Nat, a = x := ⟨a.toNat, by omega⟩
  obtain ⟨y, rfl⟩ : ∃ y : Nat, b = y := ⟨b.toNat, by omega⟩
  have hm' : x % 2 ^ k = 0 := by
    have : ((x % 2 ^ k : Nat) : Int) = 0 := by rw [← hm]; push_cast; rfl
    omega
  have hb' : y < 2 ^ k := by
    have : (y : Int) < ((2 ^ k : Nat) : Int) := by push_cast; exact hb.2
    omega
  obtain ⟨q, hq⟩ : ∃ q, x = 2 ^ k * q := ⟨x / 2 ^ k, by have := Nat.div_add_mod x (2 ^ k); omega⟩
  have ho : x ||| y = x + y := by rw [hq]; exact (Nat.two_pow_add_eq_or_of_lt hb' q).symm
  have hk2 : 2 ^ k ≤ 2 ^ 8 := Nat.pow_le_pow_right (by decide) hk
  have h8 : 2 ^ 8 = 256 := rfl
  have hlt : x ||| y < 2 ^ 8 := Nat.or_lt_two_pow (by omega) (by omega)
  have h1 : (BitVec.ofInt 8 (x : Int)).toNat = x := by
    rw [BitVec.ofInt_natCast, BitVec.toNat_ofNat]; exact Nat.mod_eq_of_lt (by omega)
  have h2 : (BitVec.ofInt 8 (y : Int)).toNat = y := by
    rw [BitVec.ofInt_natCast, BitVec.toNat_ofNat]; exact Nat.mod_eq_of_lt (by omega)
  show IntKind.u8.wrap ((BitVec.ofInt 8 (x : Int) ||| BitVec.ofInt 8 (y : Int)).toNat : Int) = _
  rw [BitVec.toNat_or, h1, h2, ho, IntKind.wrap_u8]
  omega

set_option maxRecDepth 100000 in
set_option maxHeartbeats 2000000 in
theorem put_part (c d n i N : Nat) (v : Nat → Int) (W : World) (hd : d = 1 ∨ d = 4) (hi : i < n) (hn : n ≤ 100) (hN : n * d ≤ 8 * N) (hNb : N ≤ 1000) (hv : 0 ≤ v i ∧ v i < 2 ^ d) (h : UR c (rowL d n v N (i * d)) W) :
    Calls Try.prog 19 #[.slice (some ⟨c, 0, none⟩) N N, .int .i64 i, .int .i64 d, .int .i64 (v i)] W fun e' w' => e' = .returned (.tuple #[]) ∧ UR c (rowL d n v N ((i + 1) * d)) w' ∧ W.grownBy w' (some c) := by
  obtain ⟨p1, p2⟩ := part_ok d n v i hd hi hv
  have hle : (i + 1) * d ≤ n * d := Nat.mul_le_mul_right d hi
  have hi1 : (i + 1) * d = i * d + d := by rw [Nat.add_mul, Nat.one_mul]
  have hmb : i * d ≤ 100 * 4 := Nat.mul_le_mul (by omega) (by omega)
  obtain ⟨x, hx⟩ : ∃ x, v i = x := ⟨_, rfl⟩
  have hold := pB_bd d n v (i * d) (i * d / 8)
  have hnew := pB_bd d n v ((i + 1) * d) (i * d / 8)
  have ho : ∀ k, k ≠ i * d / 8 → pB d n v (i * d) k = pB d n v ((i + 1) * d) k := fun k hk => pB_apart d n v _ _ k (by omega) (by rcases hd with rfl | rfl <;> omega)
  have hS := rowL_set d n v N (i * d) ((i + 1) * d) (i * d / 8) _ (by omega) rfl ho
  have hl : i * d / 8 < (rowL d n v N (i * d)).length := by rw [rowL_len]; omega
  have hc := h.cell (i * d / 8) hl
  have hg : (rowL d n v N (i * d))[i * d / 8]'hl = pB d n v (i * d) (i * d / 8) := by
    have := rowL_get d n v N (i * d) (i * d / 8) (by omega)
    rw [List.getElem?_eq_getElem hl] at this
    exact Option.some.inj this
  rw [hg] at hc
  rw [hx] at hv p1 ⊢
  obtain ⟨old, hold0⟩ : ∃ y, pB d n v (i * d) (i * d / 8) = y := ⟨_, rfl⟩
  rw [hold0] at hc hold p1 p2
  rw [p1] at hS hnew
  have hU := h.set (i * d / 8) (old + x * 2 ^ (8 - d - i * d % 8))
  rw [hS] at hU
  have HU := Lib.hid hU
  obtain ⟨m, hm⟩ : ∃ m, i * d = m := ⟨_, rfl⟩
  rw [hm] at hc p2 HU hmb hi1 hl hnew
  obtain ⟨j, hj⟩ : ∃ j, m / 8 = j := ⟨_, rfl⟩
  obtain ⟨r, hr⟩ : ∃ r, m % 8 = r := ⟨_, rfl⟩
  rw [hj] at hc HU hl
  rw [hr] at p2 HU hnew
  obtain ⟨sh, hsh⟩ : ∃ s, 8 - d - r = s := ⟨_, rfl⟩
  rw [hsh] at HU hnew
  have hdr : d + r ≤ 8 := by rcases hd with rfl | rfl <;> omega
  have hw1 : IntKind.i64.wrap ((i : Int) * (d : Int)) = (m : Int) := by
    have : (i : Int) * (d : Int) = (m : Int) := by rw [← Int.natCast_mul, hm]
    rw [this]
    exact IntWalk.i64_in _ (by omega)
  have hw2 : (m : Int) / 8 = (j : Int) := by omega
  have hw3 : (m : Int) % 8 = (r : Int) := by omega
  have hd8' : decide ((d : Int) < 8) = true := decide_eq_true (by omega)
  have hw4 : IntKind.i64.wrap (8 - (d : Int)) = ((8 - d : Nat) : Int) := by rw [IntWalk.i64_in _ (by omega)]; omega
  have hw5 : IntKind.i64.wrap (((8 - d : Nat) : Int) - (r : Int)) = (sh : Int) := by rw [IntWalk.i64_in _ (by omega)]; omega
  have hj0 : (0 : Int) ≤ (j : Int) := by omega
  have hjN : (j : Int) < (N : Int) := by omega
  obtain ⟨hc1, hc2⟩ := hc
  have hxs : 0 ≤ x * 2 ^ sh ∧ x * 2 ^ sh ≤ 255 := ⟨Int.mul_nonneg hv.1 (Int.pow_nonneg (by decide)), by omega⟩
  have hlt2 : x * 2 ^ sh < 2 ^ (8 - r) := by
    have h1 : (2 : Int) ^ (8 - r) = 2 ^ d * 2 ^ sh := by rw [← Int.pow_add]; congr 1; omega
    rw [h1]
    exact Int.mul_lt_mul_of_pos_right hv.2 (Int.pow_pos (by decide))
  have hV : bits .or .u8 old (wrap64 (x * 2 ^ min sh 64) % 256) = old + x * 2 ^ sh := by
    rw [show min sh 64 = sh by omega]
    have hw : wrap64 (x * 2 ^ sh) = x * 2 ^ sh := by unfold wrap64; omega
    rw [hw, Int.emod_eq_of_lt hxs.1 (by omega)]
    exact or_add old _ (8 - r) (by omega) hold p2 ⟨hxs.1, hlt2⟩
  have HV := Lib.hid hV
  clear hm hj hr hsh hold0 hg hS ho p1 hle hi1 h hx hN hi hU hxs hlt2 hV hnew p2
  go_enter Try.func19, Try.ntmps19
  go_upto_region 2 with fail
  go_region
  all_goals
    go_wp2
    refine bodyPost_ret (results_none rfl _ _ _) rfl ?_
    rw [HV.out]
    exact ⟨rfl, HU.out, gb_trans (gb_set _ _ _ _) (gb_drew _ _)⟩

end Go.Proofs.Ytafglaiclpdhnaa.Rw
