/- Layer 9: the code's word of a colour, walked. -/
import Derived.Test.YtljbhahdaepecaaDoorMasG
namespace Go.Proofs.YtljbhahdaepecaaDoor.Ma
open Go.ChangeShapes Go.WideShapes Go.ChangeAt Go.RowKit
open Go.Proofs.YtljbhahdaepecaaDoor.Le Go.Proofs.YtljbhahdaepecaaDoor.Sc
set_option linter.unusedVariables false

/-- A channel's bits, in their place. -/
def fitV (c : Int) (s n : Nat) : Int := if n = 0 then 0 else five c (pw n - 1) * 2 ^ s

theorem fit_calls (s n : Nat) (c : Int) (W : World) (h : okP s n) (c0 : 0 ≤ c) (c1 : c ≤ 255) : Calls Tryd.prog 29 #[.agg #[.int .i64 s, .int .i64 n], .int .u8 c] W
    fun e w' => e = .returned (.int .i64 (fitV c s n)) ∧ W.grownBy w' none := by
  unfold fitV
  rcases h with ⟨rfl, rfl⟩ | ⟨h1, h2⟩
  · exact fit_no 0 0 c W (by decide) (by decide) has_0
  · rw [if_neg (by omega)]
    exact fit_yes s n c W h1 h2 c0 c1

theorem fitV_bd {s n : Nat} {c : Int} (h : okP s n) (c0 : 0 ≤ c) (c1 : c ≤ 255) : 0 ≤ fitV c s n ∧ fitV c s n ≤ 4294967295 := by
  unfold fitV
  rcases h with ⟨rfl, rfl⟩ | ⟨h1, h2⟩
  · rw [if_pos rfl]; omega
  · rw [if_neg (by omega)]
    obtain ⟨b0, b1⟩ := pw_le (show n ≤ 32 by omega)
    have f0 := five_0 c0 (show 0 ≤ pw n - 1 by omega)
    have f1 := five_t c1 (show 0 ≤ pw n - 1 by omega)
    have hm := blk_int s n
    have hl := blk_lt32 h2
    have hp0 : (0 : Int) < 2 ^ s := Int.pow_pos (by decide)
    have m0 := Int.mul_nonneg f0 (Int.le_of_lt hp0)
    have m1 := Int.mul_le_mul_of_nonneg_right f1 (Int.le_of_lt hp0)
    rw [hm] at m1
    omega

/-- The bits so far. -/
def orN (x : Nat → Nat) : Nat → Nat
  | 0 => 0
  | k + 1 => orN x k ||| x k
theorem orN_lt {x : Nat → Nat} : ∀ {k : Nat}, (∀ j, j < k → x j < 4294967296) → orN x k < 4294967296
  | 0, _ => (by decide : 0 < 4294967296)
  | k + 1, h => Nat.or_lt_two_pow (n := 32) (orN_lt (k := k) (fun j hj => h j (by omega))) (h k (by omega))

/-- What holds at the head of the loop over the channels. -/
structure WI (W : World) (C : Nat → Int) (w : World) : Prop where
  v : w.heap[W.heap.size + 1 + 1]? = some (.cells #[.int .u8 (C 0), .int .u8 (C 1), .int .u8 (C 2), .int .u8 (C 3)] 59 (0, 0))
  gb : W.grownBy w none
theorem WI.grown {W : World} {C : Nat → Int} {w w' : World} (h : WI W C w) (g : w.grownBy w' none) : WI W C w' :=
  ⟨old0 g h.v (blk_lt h.v) (by simp), gb_trans h.gb g⟩
theorem WI.cell {W : World} {C : Nat → Int} {w : World} (h : WI W C w) {k : Nat} (hk : k < 4) : w.cell? ⟨W.heap.size + 1 + 1, k, none⟩ = some (.int .u8 (C k)) := by
  rw [blk_cell h.v]
  obtain rfl | rfl | rfl | rfl : k = 0 ∨ k = 1 ∨ k = 2 ∨ k = 3 := by omega
  all_goals rfl

set_option maxRecDepth 100000 in
set_option maxHeartbeats 1000000 in
theorem sword_calls (S N C : Nat → Int) (x : Nat → Nat) (W : World) (hx : ∀ k, k < 4 → x k < 4294967296)
    (KT : ∀ k, k < 4 → ∀ u, Calls Tryd.prog 29 #[.agg #[.int .i64 (S k), .int .i64 (N k)], .int .u8 (C k)] u fun e w' => e = .returned (.int .i64 (x k : Nat)) ∧ u.grownBy w' none) :
    Calls Tryd.prog 18 #[.agg (set8 (S 0) (N 0) (S 1) (N 1) (S 2) (N 2) (S 3) (N 3)), .agg #[.int .u8 (C 0), .int .u8 (C 1), .int .u8 (C 2), .int .u8 (C 3)]] W
      fun e w' => e = .returned (.int .i64 (orN x 4 : Nat)) ∧ W.grownBy w' none := by
  have M := fun u => masks_calls (S 0) (N 0) (S 1) (N 1) (S 2) (N 2) (S 3) (N 3) u
  unfold set8 at M ⊢
  obtain ⟨z, hz⟩ : ∃ z, orN x 4 = z := ⟨_, rfl⟩
  rw [hz]
  have KT' := Lib.hid KT
  have M' := Lib.hid M
  have HX := Lib.hid hx
  have HZ := Lib.hid hz
  clear KT M hx hz
  go_enter Tryd.func18, Tryd.ntmps18
  go_wp2_with fail
  refine (M'.out _).mono ?_
  rintro e w1 ⟨rfl, g1⟩
  have I1 : WI W C w1 := ⟨old3c g1 (by simp), gb_trans (gb_trans (gb_trans (World.grownBy_alloc _ _ _) (World.grownBy_alloc _ _ _)) (World.grownBy_alloc _ _ _)) g1⟩
  have HI1 := Lib.hid I1
  clear g1 I1
  go_wp2_with fail
  go_loopg [6, 20] 4 (fun q xv iv wr => ∃ (k : Nat), k ≤ 4 ∧ q = 4 - k ∧ xv = .int .i64 (orN x k : Nat) ∧ iv = .int .i64 k ∧ WI W C wr)
  case atStart => exact ⟨0, by omega, rfl, rfl, rfl, HI1.out⟩
  case round =>
    obtain ⟨k, hk, rfl, rfl, rfl, J⟩ := hrel
    have HJ := Lib.hid J
    clear J HI1
    by_cases hlt : k < 4
    · have hidx := idx_set S N k hlt
      have KTk := KT'.out k hlt
      have ho := bits_or_nat (orN x k) (x k) (orN_lt (fun j hj => HX.out j (by omega))) (HX.out k hlt)
      have hnext : orN x k ||| x k = orN x (k + 1) := rfl
      rw [hnext] at ho
      obtain ⟨s, hs⟩ : ∃ s, S k = s := ⟨_, rfl⟩
      obtain ⟨n, hn⟩ : ∃ n, N k = n := ⟨_, rfl⟩
      obtain ⟨c, hc⟩ : ∃ c, C k = c := ⟨_, rfl⟩
      obtain ⟨y, hy⟩ : ∃ y, orN x k = y := ⟨_, rfl⟩
      obtain ⟨y', hy'⟩ : ∃ y, orN x (k + 1) = y := ⟨_, rfl⟩
      obtain ⟨xk, hxk⟩ : ∃ y, x k = y := ⟨_, rfl⟩
      rw [hs, hn] at hidx
      rw [hs, hn, hc, hxk] at KTk
      rw [hy, hy', hxk] at ho
      rw [hy]
      have HC := Lib.hid hc
      have HY' := Lib.hid hy'
      have HO := Lib.hid ho
      have KTh := Lib.hid KTk
      clear KTk hs hn hc hy hy' hxk hnext ho
      go_wp2_with fail
      have hM : (wr.alloc (.cells #[.int .i64 s, .int .i64 n] 23)).heap[wr.heap.size]? = some (.cells #[.int .i64 s, .int .i64 n] 23 (0, 0)) := blk_at
      have hJ5 := HJ.out.grown (World.grownBy_alloc wr (.cells #[.int .i64 s, .int .i64 n] 23) none)
      generalize wr.alloc (.cells #[.int .i64 s, .int .i64 n] 23) = w5 at hM hJ5 ⊢
      have m0 : w5.cell? ⟨wr.heap.size, 0, none⟩ = some (.int .i64 s) := blk_cell hM 0
      have m1 : w5.cell? ⟨wr.heap.size, 1, none⟩ = some (.int .i64 n) := blk_cell hM 1
      have vc := hJ5.cell hlt
      rw [HC.out] at vc
      have HJ5 := Lib.hid hJ5
      have ho := HO.out
      clear hM hJ5 hidx
      go_region_held3 (fun w' => w'.cell? ⟨wr.heap.size, 0, none⟩ = some (.int .i64 s) ∧ w'.cell? ⟨wr.heap.size, 1, none⟩ = some (.int .i64 n) ∧ w'.cell? ⟨W.heap.size + 1 + 1, k, none⟩ = some (.int .u8 c)) (go_keep)
        (first | (go_at_call 29; with_reducible refine (KTh.out _).mono ?_; rintro e w6 ⟨rfl, g6o⟩; have g6 : w5.grownBy w6 none := (by first | exact gb_trans (gb_drew w5 _) g6o | exact g6o); clear g6o; have kk0 : w6.cell? ⟨wr.heap.size, 0, none⟩ = some (.int .i64 s) := g6.cell m0 (by simp); have kk1 : w6.cell? ⟨wr.heap.size, 1, none⟩ = some (.int .i64 n) := g6.cell m1 (by simp); have kk2 : w6.cell? ⟨W.heap.size + 1 + 1, k, none⟩ = some (.int .u8 c) := g6.cell vc (by simp); have HJ6 := Lib.hid (HJ5.out.grown g6); clear g6))
      all_goals
        go_wp2
        go_roundg (4 - (k + 1))
        case measure => omega
        case rel => exact ⟨k + 1, by omega, rfl, by rw [HY'.out], by go_num, HJ6.out⟩
    · obtain rfl : k = 4 := by omega
      rw [HZ.out]
      have HG := Lib.hid HJ.out.gb
      clear HJ
      go_wp2
      go_ret
      exact ⟨rfl, HG.out⟩

end Go.Proofs.YtljbhahdaepecaaDoor.Ma
