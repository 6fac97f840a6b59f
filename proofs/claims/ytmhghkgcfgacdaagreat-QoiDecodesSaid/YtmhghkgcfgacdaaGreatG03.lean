/- Texts of one kind, one behind the other: RowsFold. -/
import Derived.LoopTactic
import Derived.Test.YtmhghkgcfgacdaaGreatG12
/- Sums and products from the left on: the code's fold, as a plain fold over a list of integers. -/
namespace Go.Proofs.YtmhghkgcfgacdaaGreat.Nu
open Go.ChangeShapes Go.WideShapes Go.ChangeAt Go.RowKit
set_option linter.unusedVariables false

def stepA (p : Int × Bool) (v : Int) : Int × Bool := if p.2 then (addV p.1 v, addOk p.1 v) else p
def stepM (p : Int × Bool) (v : Int) : Int × Bool := if p.2 then (mulV p.1 v, mulOk p.1 v) else p
def allA (l : List Int) : Int × Bool := l.foldl stepA (0, true)
def allM (l : List Int) : Int × Bool := l.foldl stepM (1, true)

theorem foldA_no (l : List Int) : l.foldl stepA (0, false) = (0, false) := by
  induction l with
  | nil => rfl
  | cons v l ih => simpa [stepA] using ih

theorem foldM_no (l : List Int) : l.foldl stepM (0, false) = (0, false) := by
  induction l with
  | nil => rfl
  | cons v l ih => simpa [stepM] using ih

theorem take_succ (l : List Int) (k : Nat) (h : k < l.length) : l.take (k + 1) = l.take k ++ [l.getD k 0] := by
  rw [List.take_succ_eq_append_getElem h]; simp [List.getD, h]

theorem allA_succ (l : List Int) (k : Nat) (h : k < l.length) : allA (l.take (k + 1)) = stepA (allA (l.take k)) (l.getD k 0) := by
  rw [take_succ l k h]; simp [allA, List.foldl_append]

theorem allM_succ (l : List Int) (k : Nat) (h : k < l.length) : allM (l.take (k + 1)) = stepM (allM (l.take k)) (l.getD k 0) := by
  rw [take_succ l k h]; simp [allM, List.foldl_append]
/-- What is not told on the way is not told at the end. -/
theorem allA_stop (l : List Int) (k : Nat) (h : allA (l.take k) = (0, false)) : allA l = (0, false) := by
  have : l = l.take k ++ l.drop k := (List.take_append_drop k l).symm
  rw [this]; unfold allA at *; rw [List.foldl_append, h]; exact foldA_no _

theorem allM_stop (l : List Int) (k : Nat) (h : allM (l.take k) = (0, false)) : allM l = (0, false) := by
  have : l = l.take k ++ l.drop k := (List.take_append_drop k l).symm
  rw [this]; unfold allM at *; rw [List.foldl_append, h]; exact foldM_no _

theorem foldM (b off len cap : Nat) (zs : List Int) (w : World) (hz : zs.length = len) (hbig : len ≤ 9223372036854775807) (hc : ∀ j, j < len → w.cell? ⟨b, off + j, none⟩ = some (.int .i64 (zs.getD j 0))) :
    Calls Tryz.prog 87 #[.func (.func 88) #[] #[], .int .i64 1, .slice (some ⟨b, off, none⟩) len cap] w fun e w' => e = .returned (.tuple #[.int .i64 (allM zs).1, .bool (allM zs).2]) ∧ w = w' := by
  have HZ := Lib.hid hz
  clear hz
  go_enter Tryz.func87, Tryz.ntmps87
  go_wp2
  go_loop [1, 14] (fun v i => ∃ k : Nat, k ≤ len ∧ i = .int .i64 k ∧ ∃ x : Int, allM (zs.take k) = (x, true) ∧ v = .int .i64 x) (fun _ i => len - (intOf i).toNat)
  case atStart => exact ⟨0, Nat.zero_le _, rfl, 1, rfl, rfl⟩
  case round =>
    obtain ⟨k, hk, rfl, x, hx, rfl⟩ := hrel
    by_cases hlt : k < len
    · have hcell := hc k hlt
      have hs := allM_succ zs k (by have := HZ.out; omega)
      rw [hx] at hs
      simp only [stepM, if_true] at hs
      obtain ⟨y, hy⟩ : ∃ y, zs.getD k 0 = y := ⟨_, rfl⟩
      rw [hy] at hs hcell
      clear hy
      have HS := Lib.hid hs
      have HX := Lib.hid hx
      clear hs hx hc
      cases ho : mulOk x y
      · have hv := mulV_no ho
        have hst := allM_stop zs (k + 1) (by rw [HS.out, ho, hv])
        have HST := Lib.hid hst
        have HV := Lib.hid hv
        clear hst hv
        go_wp2_with (go_at_call 88; refine (mul11 _ _ _).mono ?_; rintro e w' ⟨rfl, rfl⟩)
        go_ret2
        rw [HST.out]
        exact ⟨rfl, rfl⟩
      · go_wp2_with (go_at_call 88; refine (mul11 _ _ _).mono ?_; rintro e w' ⟨rfl, rfl⟩)
        go_round
        case rel => exact ⟨k + 1, by omega, by go_num, _, by rw [HS.out, ho], rfl⟩
        case measure => simp [intOf]; omega
    · have hx' : allM zs = (x, true) := by rw [← hx, List.take_of_length_le (by have := HZ.out; omega)]
      have HX := Lib.hid hx'
      clear hx' hx
      go_wp2
      go_ret2
      rw [HX.out]
      exact ⟨rfl, rfl⟩

theorem foldM_e (a : Option Addr) (cap : Nat) (w : World) :
    Calls Tryz.prog 87 #[.func (.func 88) #[] #[], .int .i64 1, .slice a 0 cap] w fun e w' => e = .returned (.tuple #[.int .i64 1, .bool true]) ∧ w = w' := by
  go_enter Tryz.func87, Tryz.ntmps87
  go_wp2
  refine wp_loop_rounds 1 ?_
  rw [rounds_succ]
  go_wp2
  go_ret2
  exact ⟨rfl, rfl⟩

theorem prod15 (b off len cap : Nat) (zs : List Int) (w : World) (hz : zs.length = len) (hbig : len ≤ 9223372036854775807) (hc : ∀ j, j < len → w.cell? ⟨b, off + j, none⟩ = some (.int .i64 (zs.getD j 0))) :
    Calls Tryz.prog 67 #[.slice (some ⟨b, off, none⟩) len cap] w fun e w' => e = .returned (.tuple #[.int .i64 (allM zs).1, .bool (allM zs).2]) ∧ w = w' := by
  have H := Lib.hid (foldM b off len cap zs w hz hbig hc)
  clear hz hc
  go_enter Tryz.func67, Tryz.ntmps67
  go_wp2_with (go_at_call 87; refine H.out.mono ?_; rintro e w' ⟨rfl, rfl⟩)
  go_ret2
  exact ⟨rfl, rfl⟩

theorem prod15_e (a : Option Addr) (cap : Nat) (w : World) :
    Calls Tryz.prog 67 #[.slice a 0 cap] w fun e w' => e = .returned (.tuple #[.int .i64 1, .bool true]) ∧ w = w' := by
  go_enter Tryz.func67, Tryz.ntmps67
  go_wp2_with (go_at_call 87; refine (foldM_e _ _ _).mono ?_; rintro e w' ⟨rfl, rfl⟩)
  go_ret2
  exact ⟨rfl, rfl⟩

end Go.Proofs.YtmhghkgcfgacdaaGreat.Nu
