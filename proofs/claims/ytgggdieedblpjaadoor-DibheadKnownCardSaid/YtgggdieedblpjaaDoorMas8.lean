/- Layer 9: the code's Of, Word, fit, count: walked. -/
import Derived.Test.YtgggdieedblpjaaDoorMas7
import Derived.Test.YtgggdieedblpjaaDoorMas5
namespace Go.Proofs.YtgggdieedblpjaaDoor.Ma
open Go.ChangeShapes Go.WideShapes Go.ChangeAt Go.RowKit
open Go.Proofs.YtgggdieedblpjaaDoor.Le Go.Proofs.YtgggdieedblpjaaDoor.Sc
set_option linter.unusedVariables false

theorem and_ones (x : Int) (n : Nat) (hn : n ≤ 32) : bits .and .i64 x (pw n - 1) = x % pw n := by
  obtain ⟨b0, b1⟩ := pw_le hn
  have hp : pw n = ((2 ^ n : Nat) : Int) := rfl
  have h : ((BitVec.ofInt 64 x) &&& (BitVec.ofInt 64 (pw n - 1))).toNat = (x % pw n).toNat := by
    rw [BitVec.toNat_and, BitVec.toNat_ofInt, BitVec.toNat_ofInt]
    have e : ((pw n - 1) % ((2 ^ 64 : Nat) : Int)).toNat = 2 ^ n - 1 := by
      rw [hp] at b0 b1 ⊢
      omega
    rw [e, Nat.and_two_pow_sub_one_eq_mod]
    have h0 : 0 ≤ x % ((2 ^ 64 : Nat) : Int) := Int.emod_nonneg _ (by decide)
    have e2 : (((x % ((2 ^ 64 : Nat) : Int)).toNat % 2 ^ n : Nat) : Int) = x % pw n := by
      rw [Int.natCast_emod, Int.toNat_of_nonneg h0, hp]
      refine Int.emod_emod_of_dvd x ?_
      rw [Int.natCast_dvd_natCast]
      exact Nat.pow_dvd_pow 2 (by omega)
    omega
  have g0 : 0 ≤ x % pw n := Int.emod_nonneg _ (by omega)
  have g1 : x % pw n < pw n := Int.emod_lt_of_pos _ (by omega)
  unfold bits
  show IntKind.i64.wrap (((BitVec.ofInt 64 x) &&& (BitVec.ofInt 64 (pw n - 1))).toNat : Int) = x % pw n
  rw [h, IntKind.wrap_i64]
  omega

/-- A channel of a word. -/
def ofV (word : Int) (s n : Nat) : Int := word / 2 ^ s % pw n
theorem ofV_low (word : Int) (s n : Nat) (h : s + n ≤ 32) : ofV word s n = ((low32 word / 2 ^ s % 2 ^ n : Nat) : Int) := by
  unfold ofV low32 pw
  have h0 : 0 ≤ word % 4294967296 := Int.emod_nonneg _ (by decide)
  rw [Int.natCast_emod, Int.natCast_ediv, Int.toNat_of_nonneg h0]
  obtain ⟨k, hk⟩ : ∃ k, 32 = s + n + k := ⟨32 - s - n, by omega⟩
  have e : (4294967296 : Int) = 2 ^ s * (2 ^ n * 2 ^ k) := by
    rw [show (4294967296 : Int) = 2 ^ 32 from by decide, hk, Int.pow_add, Int.pow_add, Int.mul_assoc]
  have e2 : word = word % 4294967296 + 2 ^ s * (2 ^ n * (2 ^ k * (word / 4294967296))) := by
    rw [← Int.mul_assoc (2 ^ n), ← Int.mul_assoc (2 ^ s), ← e]
    exact (Int.emod_add_mul_ediv word 4294967296).symm
  have hp : (2 : Int) ^ s ≠ 0 := Int.ne_of_gt (Int.pow_pos (by decide))
  have e3 : word / 2 ^ s = (word % 4294967296) / 2 ^ s + 2 ^ n * (2 ^ k * (word / 4294967296)) :=
    (congrArg (· / (2 : Int) ^ s) e2).trans (Int.add_mul_ediv_left _ _ hp)
  have hc : ((2 ^ n : Nat) : Int) = (2 : Int) ^ n := by simp
  have hc2 : ((2 ^ s : Nat) : Int) = (2 : Int) ^ s := by simp
  rw [hc, hc2, e3, Int.add_mul_emod_self_left]
theorem ofV_bd (word : Int) (s : Nat) {n : Nat} (h : n ≤ 32) : 0 ≤ ofV word s n ∧ ofV word s n ≤ pw n - 1 := by
  obtain ⟨b0, b1⟩ := pw_le h
  have g0 : 0 ≤ word / 2 ^ s % pw n := Int.emod_nonneg _ (by omega)
  have g1 : word / 2 ^ s % pw n < pw n := Int.emod_lt_of_pos _ (by omega)
  unfold ofV
  omega

theorem has_yes {s n : Nat} (h1 : 1 ≤ n) (h : s + n ≤ 32) : hasB s n = true := by
  unfold hasB
  rw [decide_eq_true (by omega), decide_eq_true (by omega), decide_eq_true (by omega)]
  rfl

theorem blk_int (s n : Nat) : (pw n - 1) * 2 ^ s = ((blk s n : Nat) : Int) := by
  unfold blk pw
  have h : 1 ≤ 2 ^ n := Nat.pow_pos (by decide)
  rw [Int.natCast_mul, Int.natCast_sub h]
  simp
theorem blk_lt32 {s n : Nat} (h : s + n ≤ 32) : blk s n < 4294967296 := by
  unfold blk
  have h0 : 1 ≤ 2 ^ n := Nat.pow_pos (by decide)
  have h1 : 1 ≤ 2 ^ s := Nat.pow_pos (by decide)
  have h2 : 2 ^ n * 2 ^ s ≤ 2 ^ 32 := by rw [← Nat.pow_add]; exact Nat.pow_le_pow_right (by decide) (by omega)
  have h3 : (2 ^ n - 1) * 2 ^ s = 2 ^ n * 2 ^ s - 2 ^ s := by rw [Nat.sub_mul, Nat.one_mul]
  have h4 : (2 : Nat) ^ 32 = 4294967296 := by decide
  omega

set_option maxRecDepth 100000 in
theorem word_no (s n : Int) (w : World) (h : 0 ≤ s) (h2 : s ≤ 32) (hb : hasB s n = false) : Calls Tryd.prog 36 #[.agg #[.int .i64 s, .int .i64 n]] w fun e w' => e = .returned (.int .i64 0) ∧ w.grownBy w' none := by
  have K := fun u => has_calls s n u h h2
  simp only [hb] at K
  have K' := Lib.hid K
  clear K hb
  go_enter Tryd.func36, Tryd.ntmps36
  go_wp2_with fail
  refine (K'.out _).mono ?_
  rintro e w1 ⟨rfl, g1⟩
  have G := Lib.hid (gb_trans (World.grownBy_alloc _ _ _) g1)
  clear g1
  go_wp2
  go_ret
  exact ⟨rfl, G.out⟩

set_option maxRecDepth 100000 in
theorem word_yes (s n : Nat) (w : World) (h1 : 1 ≤ n) (h : s + n ≤ 32) : Calls Tryd.prog 36 #[.agg #[.int .i64 s, .int .i64 n]] w fun e w' => e = .returned (.int .i64 (blk s n : Nat)) ∧ w.grownBy w' none := by
  have K := fun u => has_calls s n u (by omega) (by omega)
  simp only [has_yes h1 h] at K
  have O := fun u => ones_calls n u (by omega)
  have hm := blk_int s n
  have hl := blk_lt32 h
  obtain ⟨m, hM⟩ : ∃ m, blk s n = m := ⟨_, rfl⟩
  obtain ⟨p, hp⟩ : ∃ p, pw n - 1 = p := ⟨_, rfl⟩
  rw [hM] at hm hl ⊢
  rw [hp] at hm
  simp only [hp] at O
  have hw : IntKind.i64.wrap (p * 2 ^ s) = (m : Int) := by rw [hm, IntKind.wrap_i64]; omega
  have K' := Lib.hid K
  have O' := Lib.hid O
  have HW := Lib.hid hw
  have HM := Lib.hid hm
  clear K O hM hp hm hw
  go_enter Tryd.func36, Tryd.ntmps36
  go_wp2_with fail
  have hbox : (w.alloc (.cells #[.int .i64 (s : Int), .int .i64 (n : Int)] 27)).heap[w.heap.size]? = some (.cells #[.int .i64 (s : Int), .int .i64 (n : Int)] 27 (0, 0)) := blk_at
  have HB := Lib.hid hbox
  clear hbox
  refine (K'.out _).mono ?_
  rintro e w1 ⟨rfl, g1⟩
  have B2 := (g1.block _ (blk_lt HB.out) (by simp)).trans HB.out
  have c0 : w1.cell? ⟨w.heap.size, 0, none⟩ = some (.int .i64 s) := blk_cell B2 0
  have c1 : w1.cell? ⟨w.heap.size, 1, none⟩ = some (.int .i64 n) := blk_cell B2 1
  have G := Lib.hid (gb_trans (World.grownBy_alloc _ _ _) g1)
  clear g1 B2
  go_wp2_with fail
  have hw := HW.out
  have hm := HM.out
  go_quiet ((go_at_call 57; exact Calls.quiet_of_same ((O'.out _).mono (fun _ _ ⟨a, b⟩ => ⟨a, b.symm⟩))))
  go_wp2
  go_ret
  exact ⟨rfl, gb_trans G.out (gb_drewN _ _ _)⟩

/-- The mask of a place. -/
def wordV (s n : Nat) : Nat := if 1 ≤ n ∧ s + n ≤ 32 then blk s n else 0
theorem word_calls (s n : Nat) (w : World) (hs : s ≤ 32) : Calls Tryd.prog 36 #[.agg #[.int .i64 s, .int .i64 n]] w fun e w' => e = .returned (.int .i64 (wordV s n : Nat)) ∧ w.grownBy w' none := by
  unfold wordV
  by_cases h : 1 ≤ n ∧ s + n ≤ 32
  · rw [if_pos h]
    exact word_yes s n w h.1 h.2
  · rw [if_neg h]
    refine word_no s n w (by omega) (by omega) ?_
    unfold hasB
    by_cases h1 : 1 ≤ n
    · rw [decide_eq_false (show ¬ ((n : Int) ≤ 32 - s) by omega)]; simp
    · rw [decide_eq_false (show ¬ (1 ≤ (n : Int)) by omega)]; simp

theorem five_mul {v p : Int} (v0 : 0 ≤ v) (v1 : v ≤ 255) (p0 : 0 ≤ p) (p1 : p ≤ 4294967295) : 0 ≤ 2 * v * p ∧ 2 * v * p ≤ 2190433320450 := by
  have h1 : 0 ≤ v * p := Int.mul_nonneg v0 p0
  have h2 : v * p ≤ 255 * p := Int.mul_le_mul_of_nonneg_right v1 p0
  have e : 2 * v * p = 2 * (v * p) := Int.mul_assoc ..
  rw [e]
  omega

end Go.Proofs.YtgggdieedblpjaaDoor.Ma
