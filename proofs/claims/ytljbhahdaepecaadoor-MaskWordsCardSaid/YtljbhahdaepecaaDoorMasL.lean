/- Layer 9: a colour's word, by its places: pure, and the calls. -/
import Derived.Test.YtljbhahdaepecaaDoorMasJ
import Derived.Test.YtljbhahdaepecaaDoorMasK
namespace Go.Proofs.YtljbhahdaepecaaDoor.Ma
open Go.ChangeShapes Go.WideShapes Go.ChangeAt Go.RowKit
open Go.Proofs.YtljbhahdaepecaaDoor.Le Go.Proofs.YtljbhahdaepecaaDoor.Sc
set_option linter.unusedVariables false

theorem or4 (x : Nat → Nat) (i : Nat) : (orN x 4).testBit i = ((((x 0).testBit i || (x 1).testBit i) || (x 2).testBit i) || (x 3).testBit i) := by
  show ((((0 ||| x 0) ||| x 1) ||| x 2) ||| x 3).testBit i = _
  simp [Nat.testBit_or]

theorem high_bit {c i : Nat} (h : c < 256) (hi : 8 ≤ i) : c.testBit i = false :=
  Nat.testBit_lt_two_pow (Nat.lt_of_lt_of_le h (Nat.pow_le_pow_right (n := 2) (by decide) hi))

/-- Bits in places of their own are told apart. -/
theorem or_pick (s c : Nat → Nat) (hd : ∀ j, j < 4 → ∀ k, k < 4 → j ≠ k → s j + 8 ≤ s k ∨ s k + 8 ≤ s j) (hc : ∀ j, j < 4 → c j < 256) (k : Nat) (hk : k < 4) :
    orN (fun j => c j * 2 ^ s j) 4 / 2 ^ s k % 2 ^ 8 = c k := by
  apply Nat.eq_of_testBit_eq
  intro i
  rw [Nat.testBit_mod_two_pow, Nat.testBit_div_two_pow, or4]
  simp only [Nat.testBit_mul_two_pow]
  by_cases hi : i < 8
  · have one : ∀ j, j < 4 → j ≠ k → (decide (s j ≤ i + s k) && (c j).testBit (i + s k - s j)) = false := fun j hj hjk => by
      rcases hd j hj k hk hjk with h | h
      · rw [high_bit (hc j hj) (by omega)]; simp
      · rw [decide_eq_false (by omega)]; rfl
    have own : (decide (s k ≤ i + s k) && (c k).testBit (i + s k - s k)) = (c k).testBit i := by
      rw [decide_eq_true (by omega), Nat.add_sub_cancel]; rfl
    rw [decide_eq_true hi]
    obtain rfl | rfl | rfl | rfl : k = 0 ∨ k = 1 ∨ k = 2 ∨ k = 3 := by omega
    · rw [own, one 1 (by decide) (by decide), one 2 (by decide) (by decide), one 3 (by decide) (by decide)]; simp
    · rw [own, one 0 (by decide) (by decide), one 2 (by decide) (by decide), one 3 (by decide) (by decide)]; simp
    · rw [own, one 0 (by decide) (by decide), one 1 (by decide) (by decide), one 3 (by decide) (by decide)]; simp
    · rw [own, one 0 (by decide) (by decide), one 1 (by decide) (by decide), one 2 (by decide) (by decide)]; simp
  · rw [decide_eq_false hi, high_bit (hc k hk) (by omega)]; rfl

theorem or_within (x m : Nat → Nat) (h : ∀ k, k < 4 → x k &&& m k = x k) : orN x 4 &&& orN m 4 = orN x 4 := by
  apply Nat.eq_of_testBit_eq
  intro i
  rw [Nat.testBit_and, or4, or4]
  have one : ∀ k, k < 4 → ((x k).testBit i && (m k).testBit i) = (x k).testBit i := fun k hk => by rw [← Nat.testBit_and, h k hk]
  have h0 := one 0 (by decide)
  have h1 := one 1 (by decide)
  have h2 := one 2 (by decide)
  have h3 := one 3 (by decide)
  cases hx0 : (x 0).testBit i <;> cases hx1 : (x 1).testBit i <;> cases hx2 : (x 2).testBit i <;> cases hx3 : (x 3).testBit i <;> simp [hx0, hx1, hx2, hx3] at h0 h1 h2 h3 ⊢ <;> simp [h0, h1, h2, h3]

theorem within_blk (c s : Nat) (hc : c < 256) : (c * 2 ^ s) &&& blk s 8 = c * 2 ^ s := by
  apply Nat.eq_of_testBit_eq
  intro i
  rw [Nat.testBit_and, Nat.testBit_mul_two_pow]
  unfold blk
  rw [← Nat.shiftLeft_eq, Nat.testBit_shiftLeft, Nat.testBit_two_pow_sub_one]
  by_cases h : s ≤ i
  · by_cases h2 : i - s < 8
    · simp [h, h2]
    · rw [high_bit hc (by omega)]; simp
  · simp [h]

theorem and_not_nat (a b : Nat) (ha : a < 4294967296) (hb : b < 4294967296) (h : a &&& b = a) : bits .andNot .i64 (a : Int) (b : Int) = 0 := by
  have h1 : (BitVec.ofInt 64 (a : Int)) = (BitVec.ofInt 64 (a : Int)) &&& (BitVec.ofInt 64 (b : Int)) := by
    apply BitVec.eq_of_toNat_eq
    rw [BitVec.toNat_and, BitVec.ofInt_natCast, BitVec.ofInt_natCast, BitVec.toNat_ofNat, BitVec.toNat_ofNat, Nat.mod_eq_of_lt (by omega), Nat.mod_eq_of_lt (by omega), h]
  have h2 : (BitVec.ofInt 64 (a : Int)) &&& ~~~ (BitVec.ofInt 64 (b : Int)) = 0#64 := by
    rw [h1, BitVec.and_assoc, BitVec.and_not_self]
    simp
  show IntKind.i64.wrap (((BitVec.ofInt 64 (a : Int)) &&& ~~~ (BitVec.ofInt 64 (b : Int))).toNat : Int) = 0
  rw [h2]
  decide

/-- Four places, the last of which may have no bits; each other one has eight. -/
structure Pl (s n : Nat → Nat) : Prop where
  eight : ∀ k, k < 3 → n k = 8
  last : n 3 = 8 ∨ (n 3 = 0 ∧ s 3 = 0)
  le : ∀ k, k < 4 → s k + n k ≤ 32
  apart : ∀ j, j < 4 → ∀ k, k < 4 → j ≠ k → n j ≠ 0 → n k ≠ 0 → s j + 8 ≤ s k ∨ s k + 8 ≤ s j

theorem Pl.ok {s n : Nat → Nat} (h : Pl s n) (k : Nat) (hk : k < 4) : okP (s k) (n k) := by
  have h1 := h.le k hk
  by_cases h3 : k = 3
  · subst h3
    rcases h.last with e | ⟨e, e'⟩
    · exact .inr ⟨by omega, h1⟩
    · exact .inl ⟨e', e⟩
  · have := h.eight k (by omega)
    exact .inr ⟨by omega, h1⟩
theorem Pl.two {s n : Nat → Nat} (h : Pl s n) (k : Nat) (hk : k < 4) : n k = 8 ∨ (n k = 0 ∧ s k = 0) := by
  by_cases h3 : k = 3
  · subst h3; exact h.last
  · exact .inl (h.eight k (by omega))

/-- A channel's bits in its place. -/
def xN (s n c : Nat → Nat) (k : Nat) : Nat := if n k = 0 then 0 else c k * 2 ^ s k

theorem xN_fit {s n c : Nat → Nat} (h : Pl s n) (hc : ∀ k, k < 4 → c k < 256) (k : Nat) (hk : k < 4) : fitV (c k) (s k) (n k) = (xN s n c k : Nat) := by
  unfold fitV xN
  rcases h.two k hk with e | ⟨e, _⟩
  · rw [e, if_neg (by decide), if_neg (by decide), show pw 8 - 1 = 255 from by decide, five_255]
    simp
  · rw [e]; rfl
theorem xN_lt {s n c : Nat → Nat} (h : Pl s n) (hc : ∀ k, k < 4 → c k < 256) (k : Nat) (hk : k < 4) : xN s n c k < 4294967296 := by
  have e := xN_fit h hc k hk
  obtain ⟨_, b⟩ := fitV_bd (c := (c k : Int)) (h.ok k hk) (by omega) (by have := hc k hk; omega)
  omega

/-- What stands in the word at each place is the channel. -/
theorem xN_pick {s n c : Nat → Nat} (h : Pl s n) (hc : ∀ k, k < 4 → c k < 256) (k : Nat) (hk : k < 4) (hn : n k ≠ 0) : orN (xN s n c) 4 / 2 ^ s k % 2 ^ 8 = c k := by
  rcases h.last with e | ⟨e, e'⟩
  · have e8 : ∀ j, j < 4 → n j ≠ 0 := fun j hj => by
      by_cases h3 : j = 3
      · subst h3; omega
      · have := h.eight j (by omega); omega
    have hx : orN (xN s n c) 4 = orN (fun j => c j * 2 ^ s j) 4 := by
      show ((((0 ||| xN s n c 0) ||| xN s n c 1) ||| xN s n c 2) ||| xN s n c 3) = ((((0 ||| c 0 * 2 ^ s 0) ||| c 1 * 2 ^ s 1) ||| c 2 * 2 ^ s 2) ||| c 3 * 2 ^ s 3)
      unfold xN
      rw [if_neg (e8 0 (by decide)), if_neg (e8 1 (by decide)), if_neg (e8 2 (by decide)), if_neg (e8 3 (by decide))]
    rw [hx]
    exact or_pick s c (fun j hj k hk hjk => h.apart j hj k hk hjk (e8 j hj) (e8 k hk)) hc k hk
  · have hx : orN (xN s n c) 4 = orN (fun j => (if j = 3 then 0 else c j) * 2 ^ (if j = 3 then 100 else s j)) 4 := by
      show ((((0 ||| xN s n c 0) ||| xN s n c 1) ||| xN s n c 2) ||| xN s n c 3) = ((((0 ||| c 0 * 2 ^ s 0) ||| c 1 * 2 ^ s 1) ||| c 2 * 2 ^ s 2) ||| 0 * 2 ^ 100)
      unfold xN
      rw [h.eight 0 (by decide), h.eight 1 (by decide), h.eight 2 (by decide), e, if_neg (by decide), if_neg (by decide), if_neg (by decide), if_pos rfl, Nat.zero_mul]
    have hk3 : k ≠ 3 := fun h3 => by subst h3; exact hn e
    rw [hx]
    have := or_pick (fun j => if j = 3 then 100 else s j) (fun j => if j = 3 then 0 else c j) (fun j hj k hk hjk => by
      have hl := h.le j hj
      have hl2 := h.le k hk
      by_cases h3 : j = 3
      · rw [if_pos h3, if_neg (by omega)]
        have := h.eight k (by omega)
        omega
      · rw [if_neg h3]
        by_cases h4 : k = 3
        · rw [if_pos h4]
          have := h.eight j (by omega)
          omega
        · rw [if_neg h4]
          have a := h.eight j (by omega)
          have b := h.eight k (by omega)
          exact h.apart j hj k hk hjk (by omega) (by omega)) (fun j hj => by
        show (if j = 3 then 0 else c j) < 256
        split
        · decide
        · exact hc j hj) k hk
    simp only [if_neg hk3] at this
    exact this

/-- The colour of a colour's word is it. -/
theorem xN_col {s n c : Nat → Nat} (h : Pl s n) (hc : ∀ k, k < 4 → c k < 256) (k : Nat) (hk : k < 4) (hn : n k ≠ 0) : colV (orN (xN s n c) 4 : Nat) (s k) (n k) = c k := by
  have h8 : n k = 8 := by rcases h.two k hk with e | ⟨e, _⟩ <;> omega
  have hl := h.le k hk
  have hz : orN (xN s n c) 4 < 4294967296 := orN_lt (fun j hj => xN_lt h hc j hj)
  unfold colV
  rw [if_neg hn, ofV_low _ _ _ hl, h8]
  have e : low32 ((orN (xN s n c) 4 : Nat) : Int) = orN (xN s n c) 4 := by unfold low32; omega
  rw [e, xN_pick h hc k hk hn, show pw 8 - 1 = 255 from by decide]
  exact near_self (by omega) (by have := hc k hk; omega)

theorem xN_within {s n c : Nat → Nat} (h : Pl s n) (hc : ∀ k, k < 4 → c k < 256) : orN (xN s n c) 4 &&& orN (fun k => maskW (s k) (n k)) 4 = orN (xN s n c) 4 := by
  refine or_within _ _ (fun k hk => ?_)
  unfold xN maskW
  rcases h.two k hk with e | ⟨e, _⟩
  · rw [e, if_neg (by decide), if_neg (by decide)]
    exact within_blk _ _ (hc k hk)
  · rw [e]; simp

theorem okP_lt' {s n : Nat} (h : okP s n) : maskW s n < 4294967296 := by
  unfold maskW
  rcases h with ⟨_, rfl⟩ | ⟨h1, h2⟩
  · rw [if_pos rfl]; decide
  · rw [if_neg (by omega)]; exact blk_lt32 h2

theorem pl_word {s n c : Nat → Nat} (h : Pl s n) (hc : ∀ k, k < 4 → c k < 256) (W : World) :
    Calls Tryd.prog 18 #[.agg (set8 (s 0) (n 0) (s 1) (n 1) (s 2) (n 2) (s 3) (n 3)), .agg #[.int .u8 (c 0), .int .u8 (c 1), .int .u8 (c 2), .int .u8 (c 3)]] W
      fun e w' => e = .returned (.int .i64 (orN (xN s n c) 4 : Nat)) ∧ W.grownBy w' none :=
  sword_calls (fun k => s k) (fun k => n k) (fun k => c k) (xN s n c) W (fun k hk => xN_lt h hc k hk) (fun k hk u => by
    have := fit_calls (s k) (n k) (c k) u (h.ok k hk) (by omega) (by have := hc k hk; omega)
    rw [xN_fit h hc k hk] at this
    exact this)

theorem pl_color {s n c : Nat → Nat} (h : Pl s n) (hc : ∀ k, k < 4 → c k < 256) (h3 : n 3 = 0 → c 3 = 255) (W : World) :
    Calls Tryd.prog 16 #[.agg (set8 (s 0) (n 0) (s 1) (n 1) (s 2) (n 2) (s 3) (n 3)), .int .i64 (orN (xN s n c) 4 : Nat)] W
      fun e w' => e = .returned (.agg #[.int .u8 (c 0), .int .u8 (c 1), .int .u8 (c 2), .int .u8 (c 3)]) ∧ W.grownBy w' none := by
  have H := color_is s n (orN (xN s n c) 4 : Nat) W (fun k hk => h.ok k hk)
  rw [xN_col h hc 0 (by decide) (by have := h.eight 0 (by decide); omega), xN_col h hc 1 (by decide) (by have := h.eight 1 (by decide); omega), xN_col h hc 2 (by decide) (by have := h.eight 2 (by decide); omega)] at H
  by_cases e : n 3 = 0
  · rw [if_pos e] at H
    rw [h3 e]
    exact H
  · rw [if_neg e, xN_col h hc 3 (by decide) e] at H
    exact H

theorem pl_four {s n : Nat → Nat} (h : Pl s n) (M : Nat → Int) (hM : ∀ k, k < 4 → M k = (maskW (s k) (n k) : Nat)) (hx : ∀ k, k < 4 → maskW (s k) (n k) &&& ahead (fun k => maskW (s k) (n k)) k = 0) (W : World) (hlt : 0 < W.heap.size) (hT : Tab W) :
    Calls Tryd.prog 14 #[.int .i64 (M 0), .int .i64 (M 1), .int .i64 (M 2), .int .i64 (M 3), .int .i64 32] W
      fun e w' => e = .returned (.tuple #[.agg (set8 (s 0) (n 0) (s 1) (n 1) (s 2) (n 2) (s 3) (n 3)), .int .i64 0, .int .i64 0]) ∧ W.grownBy w' none :=
  four_core M s n (fun k => maskW (s k) (n k)) 32 4 _ 0 0 W hlt hT (by omega) hM (fun k hk => okP_lt' (h.ok k hk)) hx (fun k hk u t l => by
    rw [hM k hk]
    unfold maskW
    rcases h.two k hk with e | ⟨e, e'⟩
    · rw [if_neg (by omega)]
      exact find_blk (s k) (n k) 32 u (.inr rfl) (by omega) (h.le k hk) l t
    · rw [if_pos e]
      have F := find_calls 0 32 u (.inr rfl) (by decide) l t
      rw [show findV 0 32 = (0, 0, 0) from by decide] at F
      rw [e, e']
      exact F) (.inl ⟨rfl, rfl, rfl, rfl⟩)

end Go.Proofs.YtljbhahdaepecaaDoor.Ma
