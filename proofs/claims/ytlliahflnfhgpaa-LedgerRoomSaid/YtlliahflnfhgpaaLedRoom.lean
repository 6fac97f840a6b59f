/- The law LedgerRoom, walked. -/
import Derived.Test.YtlliahflnfhgpaaLed7
import Derived.Deep.LoopGhost
namespace Go.Proofs.Ytlliahflnfhgpaa.Le
open Go.ChangeShapes Go.WideShapes Go.ChangeAt Go.RowKit
set_option linter.unusedVariables false

/-- A ledger of m bytes of which none are kept now; and one that keeps n. -/
def R (m pk : Int) : St := { w := 0, h := 0, b := m, s := 0, by_ := 0, pk := pk, st := 0, r := 0, a := 0 }
def T (m pk n : Int) : St := { w := 0, h := 0, b := m, s := 0, by_ := n, pk := pk, st := 0, r := 0, a := 0 }

theorem R_ok {m pk : Int} (hm : m ≤ 65535) (p0 : 0 ≤ pk) (pm : pk ≤ m) : (R m pk).Ok :=
  ⟨by show (0 : Int) ≤ 0; decide, by show (0 : Int) ≤ _; decide, by show (0 : Int) ≤ 0; decide, by show (0 : Int) ≤ _; decide, by show m ≤ _; omega, by show (0 : Int) ≤ _; decide, by show (0 : Int) ≤ 0; decide, p0, pm, by show (0 : Int) ≤ 0; decide, by show (0 : Int) ≤ 0; decide, by show (0 : Int) ≤ 0; decide, by show (0 : Int) ≤ 3; decide⟩
theorem T_ok {m pk n : Int} (hm : m ≤ 65535) (n0 : 0 ≤ n) (np : n ≤ pk) (pm : pk ≤ m) : (T m pk n).Ok :=
  ⟨by show (0 : Int) ≤ 0; decide, by show (0 : Int) ≤ _; decide, by show (0 : Int) ≤ 0; decide, by show (0 : Int) ≤ _; decide, by show m ≤ _; omega, by show (0 : Int) ≤ _; decide, n0, np, pm, by show (0 : Int) ≤ 0; decide, by show (0 : Int) ≤ 0; decide, by show (0 : Int) ≤ 0; decide, by show (0 : Int) ≤ 3; decide⟩

theorem R_take {m pk n : Int} (n0 : 0 ≤ n) (nm : n ≤ m) : (R m pk).take n = (T m (up pk n) n, true) := by
  unfold St.take
  rw [if_neg (by simp [R]), if_neg (by simp only [R]; omega)]
  simp [R, T]
theorem T_give {m pk n : Int} (n0 : 0 ≤ n) : (T m pk n).give n = (R m pk, true) := by
  unfold St.give
  rw [if_neg (by simp only [T]; omega)]
  simp [R, T]
theorem R_give {m pk : Int} : (R m pk).give 1 = (R m pk, false) := by
  unfold St.give
  rw [if_pos (by simp only [R]; omega)]
theorem R_new {m : Int} (m0 : 0 ≤ m) : St.new 0 0 m 0 = R m 0 := by
  have h : pos m = m := by unfold pos; rw [if_neg (by omega)]
  have h0 : pos 0 = 0 := rfl
  simp [St.new, R, h, h0]

section
variable {l : Nat} {m pk n : Int} {w : World}
theorem room_take (h : Led l (R m pk).ls w) (hm : m ≤ 65535) (p0 : 0 ≤ pk) (pm : pk ≤ m) (n0 : 0 ≤ n) (nm : n ≤ m) : Calls Try.prog 11 #[.pointer (some ⟨l, 0, none⟩), .int .i64 n] w
    fun e w' => e = .returned (.bool true) ∧ Led l (T m (up pk n) n).ls w' ∧ w.grownBy w' (some l) := by
  have h := take_calls l (R m pk) n w h (R_ok hm p0 pm)
  rwa [R_take n0 nm] at h
theorem room_give (h : Led l (T m pk n).ls w) (hm : m ≤ 65535) (n0 : 0 ≤ n) (np : n ≤ pk) (pm : pk ≤ m) : Calls Try.prog 13 #[.pointer (some ⟨l, 0, none⟩), .int .i64 n] w
    fun e w' => e = .returned (.bool true) ∧ Led l (R m pk).ls w' ∧ w.grownBy w' (some l) := by
  have h := give_calls l (T m pk n) n w h (T_ok hm n0 np pm)
  rwa [T_give n0] at h
theorem room_no (h : Led l (R m pk).ls w) (hm : m ≤ 65535) (p0 : 0 ≤ pk) (pm : pk ≤ m) : Calls Try.prog 13 #[.pointer (some ⟨l, 0, none⟩), .int .i64 1] w
    fun e w' => e = .returned (.bool false) ∧ Led l (R m pk).ls w' ∧ w.grownBy w' (some l) := by
  have h := give_calls l (R m pk) 1 w h (R_ok hm p0 pm)
  rwa [R_give] at h
end

/-- What holds at every round's head. -/
structure RI (W : World) (l : Nat) (m pk : Int) (wr : World) : Prop where
  p0 : 0 ≤ pk
  pm : pk ≤ m
  led : Led l (R m pk).ls wr
  grown : W.grownBy wr none

set_option maxRecDepth 100000 in
set_option maxHeartbeats 2000000 in
theorem room_walk (m : Int) (m0 : 0 ≤ m) (m1 : m ≤ 65535) (a : Option Addr) (b off len cap : Nat) (Z : Nat → Int) (W : World) (ha : 0 < len → a = some ⟨b, off, none⟩) (hbig : len ≤ 9223372036854775807)
    (hc : ∀ i, i < len → W.cell? ⟨b, off + i, none⟩ = some (.int .u8 (Z i)) ∧ 0 ≤ Z i ∧ Z i ≤ 255) :
    Calls Try.prog 5 #[.int .u16 m, .slice a len cap] W
      fun e w' => e = .returned (.bool true) ∧ W.grownBy w' none := by
  have HC := Lib.hid hc
  have HA := Lib.hid ha
  have K0 := fun w => new_calls 0 0 m 0 w
  rw [R_new m0] at K0
  have KN := Lib.hid K0
  clear ha hc K0
  go_enter Try.func5, Try.ntmps5
  go_wp2_with fail
  refine (KN.out _).mono ?_
  rintro e w0 ⟨l, rfl, L0, g0, hl⟩
  have H0 := Lib.hid L0
  have G0 := Lib.hid g0
  clear L0 g0 KN
  by_cases h100 : 100 < len
  · go_wp2_with (go_at_call 22; refine (awake_calls _).mono ?_; rintro e w' ⟨rfl, g⟩)
    go_ret
    exact ⟨rfl, gb_trans G0.out (by assumption)⟩
  have h100' : len ≤ 100 := by omega
  clear h100
  go_wp2_with fail
  go_loopg [6, 28] (len + 1) (fun g pv iv wr => ∃ (k : Nat) (pk : Int), k ≤ len ∧ g = len + 1 - k ∧ iv = .int .i64 k ∧ pv = .int .i64 pk ∧ RI W l m pk wr)
  case atStart => exact ⟨0, 0, by omega, rfl, rfl, rfl, ⟨Int.le_refl _, m0, H0.out, G0.out⟩⟩
  case round =>
    obtain ⟨k, pk, hk, rfl, rfl, rfl, I⟩ := hrel
    have HI := Lib.hid I
    have p0 := I.p0
    have pm := I.pm
    clear I H0 G0
    by_cases hlt : k < len
    · obtain rfl := HA.out (by omega)
      obtain ⟨c0, z0, z1⟩ := HC.out k hlt
      have c0 := HI.out.grown.cell c0 (by simp)
      obtain ⟨z, hz⟩ : ∃ z, Z k = z := ⟨_, rfl⟩
      rw [hz] at c0 z0 z1
      clear hz
      by_cases hm : m < z
      · go_wp2_with fail
        go_roundg (len + 1 - (k + 1))
        case measure => omega
        case rel => exact ⟨k + 1, pk, by omega, rfl, by go_num, rfl, HI.out⟩
      · have hm' : z ≤ m := by omega
        clear hm
        obtain ⟨u, hu⟩ : ∃ u, up pk z = u := ⟨_, rfl⟩
        have u1 : z ≤ u := hu ▸ (up_ge pk z).1
        have u2 : u ≤ m := hu ▸ up_le pm hm'
        have u3 : 0 ≤ u := by omega
        have KT := room_take HI.out.led m1 p0 pm z0 hm'
        rw [hu] at KT
        have K1 := Lib.hid KT
        clear KT
        go_wp2_with fail
        refine K1.out.mono ?_
        rintro e w1 ⟨rfl, L1, g1⟩
        have K2 := Lib.hid (room_give L1 m1 z0 u1 u2)
        have G1 := Lib.hid (gb_own HI.out.grown hl g1)
        clear L1 g1
        go_wp2_with fail
        refine K2.out.mono ?_
        rintro e w2 ⟨rfl, L2, g2⟩
        have K3 := Lib.hid (room_no L2 m1 u3 u2)
        have G2 := Lib.hid (gb_own G1.out hl g2)
        clear L2 g2
        go_wp2_with fail
        refine K3.out.mono ?_
        rintro e w3 ⟨rfl, L3, g3⟩
        have I3 := Lib.hid (show RI W l m u w3 from ⟨u3, u2, L3, gb_own G2.out hl g3⟩)
        clear L3 g3
        by_cases hp : z ≤ pk
        · have e1 : u = pk := by rw [← hu]; unfold up; rw [if_pos hp]
          have E1 := Lib.hid e1
          clear e1 hu
          go_wp2_with fail
          go_roundg (len + 1 - (k + 1))
          case measure => omega
          case rel => exact ⟨k + 1, u, by omega, rfl, by go_num, by rw [E1.out], I3.out⟩
        · have e1 : u = z := by rw [← hu]; unfold up; rw [if_neg hp]
          have hp' : pk < z := by omega
          have E1 := Lib.hid e1
          clear e1 hu hp
          go_wp2_with fail
          go_roundg (len + 1 - (k + 1))
          case measure => omega
          case rel => exact ⟨k + 1, u, by omega, rfl, by go_num, by rw [E1.out], I3.out⟩
    · have K1 := Lib.hid (peak_calls l (R m pk).ls wr HI.out.led)
      have K2 := Lib.hid (bytes_calls l (R m pk).ls wr HI.out.led)
      have K3 := Lib.hid (broken_calls l (R m pk).ls wr HI.out.led)
      have e1 : (R m pk).ls.pk = pk := rfl
      have e2 : (R m pk).ls.by_ = 0 := rfl
      have e3 : ((R m pk).ls.br != 0) = false := rfl
      go_wp2_with (first | (go_at_call 22; refine (awake_calls _).mono ?_; rintro e w' ⟨rfl, g⟩) | (go_at_call 19; refine K1.out.mono ?_; rintro e w' ⟨rfl, rfl⟩) | (go_at_call 18; refine K2.out.mono ?_; rintro e w' ⟨rfl, rfl⟩) | (go_at_call 21; refine K3.out.mono ?_; rintro e w' ⟨rfl, rfl⟩))
      go_ret
      exact ⟨rfl, gb_trans HI.out.grown (by assumption)⟩

end Go.Proofs.Ytlliahflnfhgpaa.Le
