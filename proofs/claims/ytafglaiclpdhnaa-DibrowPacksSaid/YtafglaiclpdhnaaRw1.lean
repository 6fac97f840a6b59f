/- Layer 21: the code's put, walked. -/
import Derived.Test.YtafglaiclpdhnaaRw0b
import Derived.Test.YtafglaiclpdhnaaTn
import Derived.Deep.LoopGhost
import Derived.BigRegion
import Derived.Lib.ConvBytes
import Derived.Laws.BytesString
namespace Go.Proofs.Ytafglaiclpdhnaa.Rw
open Go.ChangeShapes Go.WideShapes Go.ChangeAt Go.RowKit
open Go.Proofs.Ytafglaiclpdhnaa.Le
set_option linter.unusedVariables false

/-- Block c is a row of bytes. -/
def UR (c : Nat) (L : List Int) (w : World) : Prop := w.heap[c]? = some (.cells (L.map (Value.int .u8)).toArray 5 (0, 0))
theorem UR.cell {c : Nat} {L : List Int} {w : World} (h : UR c L w) (i : Nat) (hi : i < L.length) : w.cell? ⟨c, i, none⟩ = some (.int .u8 (L[i]'hi)) ∧ w.frozen? ⟨c, i, none⟩ = false := by
  refine ⟨?_, blk_free h i⟩
  rw [blk_cell h i]
  simp [hi]
theorem UR.set {c : Nat} {L : List Int} {w : World} (h : UR c L w) (i : Nat) (x : Int) : UR c (L.set i x) (w.setCell ⟨c, i, none⟩ (.int .u8 x)) := by
  have := blk_set h i (.int .u8 x)
  unfold UR
  rw [this, List.map_set]
  simp
theorem rowL_len (d n : Nat) (v : Nat → Int) (N m : Nat) : (rowL d n v N m).length = N := by
  unfold rowL
  rw [List.length_map, List.length_range]
theorem rowL_get (d n : Nat) (v : Nat → Int) (N m j : Nat) (h : j < N) : (rowL d n v N m)[j]? = some (pB d n v m j) := by
  unfold rowL
  rw [List.getElem?_map, List.getElem?_range h]
  rfl
/-- One byte is another, the others are as they were. -/
theorem rowL_set (d n : Nat) (v : Nat → Int) (N m m' j : Nat) (x : Int) (hj : j < N) (hx : pB d n v m' j = x) (ho : ∀ k, k ≠ j → pB d n v m k = pB d n v m' k) : (rowL d n v N m).set j x = rowL d n v N m' := by
  apply List.ext_getElem?
  intro k
  by_cases hk : k < N
  · by_cases e : j = k
    · subst e
      rw [List.getElem?_set_self (by rw [rowL_len]; exact hj), rowL_get _ _ _ _ _ _ hk, hx]
    · rw [List.getElem?_set_ne e, rowL_get _ _ _ _ _ _ hk, rowL_get _ _ _ _ _ _ hk, ho k (fun h => e h.symm)]
  · rw [List.getElem?_eq_none (by rw [List.length_set, rowL_len]; omega), List.getElem?_eq_none (by rw [rowL_len]; omega)]

set_option maxRecDepth 100000 in
set_option maxHeartbeats 2000000 in
theorem put_whole (c d e n i N : Nat) (v : Nat → Int) (W : World) (hd : d = 8 * e) (he : 1 ≤ e ∧ e ≤ 4) (hi : i < n) (hn : n ≤ 100) (hN : n * d ≤ 8 * N) (hNb : N ≤ 1000) (h : UR c (rowL d n v N (i * d)) W) :
    Calls Try.prog 19 #[.slice (some ⟨c, 0, none⟩) N N, .int .i64 i, .int .i64 d, .int .i64 (v i)] W fun e' w' => e' = .returned (.tuple #[]) ∧ UR c (rowL d n v N ((i + 1) * d)) w' ∧ W.grownBy w' (some c) := by
  obtain ⟨x, hx⟩ : ∃ x, v i = x := ⟨_, rfl⟩
  rw [hx]
  have hid : i * d = 8 * (i * e) := by rw [hd, Nat.mul_left_comm]
  have hi1 : (i + 1) * d = i * d + d := by rw [Nat.add_mul, Nat.one_mul]
  have hle : (i + 1) * d ≤ n * d := Nat.mul_le_mul_right d hi
  have hie : i * e ≤ 100 * 4 := Nat.mul_le_mul (by omega) he.2
  obtain ⟨a, ha⟩ : ∃ a, i * e = a := ⟨_, rfl⟩
  have hw1 : IntKind.i64.wrap ((i : Int) * (d : Int)) = ((8 * a : Nat) : Int) := by
    have : (i : Int) * (d : Int) = ((8 * a : Nat) : Int) := by rw [← Int.natCast_mul, hid, ha]
    rw [this]
    exact IntWalk.i64_in _ (by omega)
  have hw2 : ((8 * a : Nat) : Int) / 8 = (a : Int) := by omega
  have hd8 : ¬ (d : Int) < 8 := by omega
  have hd8' : decide ((d : Int) < 8) = false := decide_eq_false hd8
  have hde : (d : Int) / 8 = (e : Int) := by omega
  have STEP : ∀ k, k < e → ∀ w, UR c (rowL d n v N (i * d + 8 * k)) w → UR c (rowL d n v N (i * d + 8 * (k + 1))) (w.setCell ⟨c, a + k, none⟩ (.int .u8 (x / 2 ^ (8 * k) % 256))) := by
    intro k hk w hu
    have s := hu.set (a + k) (x / 2 ^ (8 * k) % 256)
    rw [rowL_set d n v N (i * d + 8 * k) (i * d + 8 * (k + 1)) (a + k) _ (by omega) (by rw [← hx, ← ha]; exact pB_whole d n v i k e hd he.1 hi hk _ (by omega)) (fun q hq => pB_apart d n v _ _ q (by omega) (by omega))] at s
    exact s
  have CELL : ∀ k, k < e → ∀ w, UR c (rowL d n v N (i * d + 8 * k)) w → ∃ y : Int, w.cell? ⟨c, a + k, none⟩ = some (.int .u8 y) ∧ w.frozen? ⟨c, a + k, none⟩ = false := by
    intro k hk w hu
    have hl : a + k < (rowL d n v N (i * d + 8 * k)).length := by rw [rowL_len]; omega
    obtain ⟨h1, h2⟩ := hu.cell (a + k) hl
    exact ⟨_, h1, h2⟩
  have HSTEP := Lib.hid STEP
  have HCELL := Lib.hid CELL
  have HEND := Lib.hid (show i * d + 8 * e = (i + 1) * d by omega)
  have H0 := Lib.hid (show UR c (rowL d n v N (i * d + 8 * 0)) W from h)
  have hab : a + e ≤ N := by omega
  have hi0 : (0 : Int) ≤ (a : Int) := by omega
  clear STEP CELL h hx ha hid hi1 hle hie hd hN hn hi
  obtain ⟨dI, hdI⟩ : ∃ z : Int, (d : Int) = z := ⟨_, rfl⟩
  rw [hdI] at hw1 hd8 hd8' hde
  simp only [hdI]
  clear hdI
  go_enter Try.func19, Try.ntmps19
  go_wp2_with fail
  go_loopg [34] e (fun mq iv wr => ∃ k : Nat, k ≤ e ∧ mq = e - k ∧ iv = .int .i64 k ∧ UR c (rowL d n v N (i * d + 8 * k)) wr ∧ W.grownBy wr (some c))
  case atStart => exact ⟨0, by omega, rfl, rfl, H0.out, gb_refl _ _⟩
  case round =>
    obtain ⟨k, hk, rfl, rfl, J, GG⟩ := hrel
    have HJ := Lib.hid J
    have HG := Lib.hid GG
    clear H0 J GG
    by_cases hke : k = e
    · subst hke
      clear hk he
      go_wp2
      go_end0
      exact ⟨rfl, by rw [← HEND.out]; exact HJ.out, HG.out⟩
    · obtain ⟨y, c1, c2⟩ := HCELL.out k (by omega) _ HJ.out
      have hk3 : k = 0 ∨ k = 1 ∨ k = 2 ∨ k = 3 := by omega
      have hke' : (k : Int) < (e : Int) := by omega
      have hix : IntKind.i64.wrap ((a : Int) + (k : Int)) = ((a + k : Nat) : Int) := by rw [IntWalk.i64_in _ (by omega)]; omega
      have h8 : IntKind.i64.wrap (8 * (k : Int)) = ((8 * k : Nat) : Int) := by rw [IntWalk.i64_in _ (by omega)]; omega
      have hj0 : (0 : Int) ≤ ((a + k : Nat) : Int) := by omega
      have hj1 : ((a + k : Nat) : Int) < (N : Int) := by omega
      have hw3 : IntKind.i64.wrap ((k : Int) + 1) = ((k + 1 : Nat) : Int) := by rw [IntWalk.i64_in _ (by omega)]; omega
      obtain ⟨ak, hak⟩ : ∃ q, a + k = q := ⟨_, rfl⟩
      simp only [hak] at c1 c2 hix hj0 hj1
      have HAK := Lib.hid hak
      clear hak
      go_wp2
      go_roundg (e - (k + 1))
      case measure => omega
      case rel => exact ⟨k + 1, by omega, rfl, by first | rfl | simp [*] | go_num, by rw [← HAK.out]; exact HSTEP.out k (by omega) _ HJ.out, gb_trans HG.out (gb_set _ _ _ _)⟩

end Go.Proofs.Ytafglaiclpdhnaa.Rw
