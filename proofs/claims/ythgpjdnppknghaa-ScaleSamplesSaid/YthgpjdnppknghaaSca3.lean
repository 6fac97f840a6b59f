/- The law ScaleSamples, walked. -/
import Derived.Test.YthgpjdnppknghaaSca2
namespace Go.Proofs.Ythgpjdnppknghaa.Sc
open Go.ChangeShapes Go.WideShapes Go.ChangeAt Go.RowKit
set_option linter.unusedVariables false

set_option maxRecDepth 100000 in
theorem samples_yes_bad (v m n : Int) (w : World) (p : Int) (p0 : 0 ≤ p) (p1 : p ≤ 255) (C1 : Hid (Calls Try.prog 34 #[.int .i64 v, .int .i64 m] w fun e w' => e = .returned (.tuple #[.int .u8 p, .bool true]) ∧ w = w')) (C2 : Hid (Calls Try.prog 35 #[.int .i64 v, .int .i64 m] w fun e w' => e = .returned (.bool true) ∧ w = w')) (C3 : Hid (Calls Try.prog 36 #[.int .i64 v, .int .i64 m] w fun e w' => e = .returned (.int .i64 p) ∧ w = w')) (hb : n < 1 ∨ 32 < n) (C4 : Hid (Calls Try.prog 37 #[.int .i64 v, .int .i64 n] w fun e w' => e = .returned (.tuple #[.int .u8 0, .bool false]) ∧ w = w')) :
    Calls Try.prog 7 #[.int .i64 v, .int .i64 m, .int .i64 n] w fun e w' => e = .returned (.bool true) ∧ w = w' := by
  have C8 := Lib.hid (awake_calls w)
  by_cases hb1 : n < 1
  · clear hb
    go_enter Try.func7, Try.ntmps7
    go_wp2_with fail
    refine C1.out.mono ?_
    rintro e w' ⟨rfl, rfl⟩
    go_wp2_with fail
    refine C2.out.mono ?_
    rintro e w' ⟨rfl, rfl⟩
    go_wp2_with fail
    refine C3.out.mono ?_
    rintro e w' ⟨rfl, rfl⟩
    go_wp2_with fail
    refine C4.out.mono ?_
    rintro e w' ⟨rfl, rfl⟩
    go_wp2_with fail
    refine C8.out.mono ?_
    rintro e w' ⟨rfl, rfl⟩
    go_wp2
    go_ret
    exact ⟨rfl, rfl⟩
  · have hb2 : 32 < n := by omega
    clear hb
    go_enter Try.func7, Try.ntmps7
    go_wp2_with fail
    refine C1.out.mono ?_
    rintro e w' ⟨rfl, rfl⟩
    go_wp2_with fail
    refine C2.out.mono ?_
    rintro e w' ⟨rfl, rfl⟩
    go_wp2_with fail
    refine C3.out.mono ?_
    rintro e w' ⟨rfl, rfl⟩
    go_wp2_with fail
    refine C4.out.mono ?_
    rintro e w' ⟨rfl, rfl⟩
    go_wp2_with fail
    refine C8.out.mono ?_
    rintro e w' ⟨rfl, rfl⟩
    go_wp2
    go_ret
    exact ⟨rfl, rfl⟩

set_option maxRecDepth 100000 in
theorem samples_yes_yes (v m n : Int) (w : World) (p : Int) (p0 : 0 ≤ p) (p1 : p ≤ 255) (C1 : Hid (Calls Try.prog 34 #[.int .i64 v, .int .i64 m] w fun e w' => e = .returned (.tuple #[.int .u8 p, .bool true]) ∧ w = w')) (C2 : Hid (Calls Try.prog 35 #[.int .i64 v, .int .i64 m] w fun e w' => e = .returned (.bool true) ∧ w = w')) (C3 : Hid (Calls Try.prog 36 #[.int .i64 v, .int .i64 m] w fun e w' => e = .returned (.int .i64 p) ∧ w = w')) (n1 : 1 ≤ n) (n2 : n ≤ 32) (P r : Int) (P0 : 2 ≤ P) (P1 : P ≤ 4294967296) (r0 : 0 ≤ r) (r1 : r ≤ 255) (C4 : Hid (Calls Try.prog 37 #[.int .i64 v, .int .i64 n] w fun e w' => e = .returned (.tuple #[.int .u8 r, .bool true]) ∧ w = w')) (C5 : Hid (Calls Try.prog 39 #[.int .i64 n] w fun e w' => e = .returned (.int .i64 P) ∧ w = w')) (C6 : Hid (Calls Try.prog 35 #[.int .i64 v, .int .i64 (P - 1)] w fun e w' => e = .returned (.bool true) ∧ w = w')) (C7 : Hid (Calls Try.prog 36 #[.int .i64 v, .int .i64 (P - 1)] w fun e w' => e = .returned (.int .i64 r) ∧ w = w')) :
    Calls Try.prog 7 #[.int .i64 v, .int .i64 m, .int .i64 n] w fun e w' => e = .returned (.bool true) ∧ w = w' := by
  have C8 := Lib.hid (awake_calls w)
  go_enter Try.func7, Try.ntmps7
  go_wp2_with fail
  refine C1.out.mono ?_
  rintro e w' ⟨rfl, rfl⟩
  go_wp2_with fail
  refine C2.out.mono ?_
  rintro e w' ⟨rfl, rfl⟩
  go_wp2_with fail
  refine C3.out.mono ?_
  rintro e w' ⟨rfl, rfl⟩
  go_wp2_with fail
  refine C4.out.mono ?_
  rintro e w' ⟨rfl, rfl⟩
  go_wp2_with fail
  refine C5.out.mono ?_
  rintro e w' ⟨rfl, rfl⟩
  go_wp2_with fail
  refine C6.out.mono ?_
  rintro e w' ⟨rfl, rfl⟩
  go_wp2_with fail
  refine C7.out.mono ?_
  rintro e w' ⟨rfl, rfl⟩
  go_wp2_with fail
  refine C8.out.mono ?_
  rintro e w' ⟨rfl, rfl⟩
  go_wp2
  go_ret
  exact ⟨rfl, rfl⟩

set_option maxRecDepth 100000 in
theorem samples_yes_no (v m n : Int) (w : World) (p : Int) (p0 : 0 ≤ p) (p1 : p ≤ 255) (C1 : Hid (Calls Try.prog 34 #[.int .i64 v, .int .i64 m] w fun e w' => e = .returned (.tuple #[.int .u8 p, .bool true]) ∧ w = w')) (C2 : Hid (Calls Try.prog 35 #[.int .i64 v, .int .i64 m] w fun e w' => e = .returned (.bool true) ∧ w = w')) (C3 : Hid (Calls Try.prog 36 #[.int .i64 v, .int .i64 m] w fun e w' => e = .returned (.int .i64 p) ∧ w = w')) (n1 : 1 ≤ n) (n2 : n ≤ 32) (P : Int) (P0 : 2 ≤ P) (P1 : P ≤ 4294967296) (C4 : Hid (Calls Try.prog 37 #[.int .i64 v, .int .i64 n] w fun e w' => e = .returned (.tuple #[.int .u8 0, .bool false]) ∧ w = w')) (C5 : Hid (Calls Try.prog 39 #[.int .i64 n] w fun e w' => e = .returned (.int .i64 P) ∧ w = w')) (C6 : Hid (Calls Try.prog 35 #[.int .i64 v, .int .i64 (P - 1)] w fun e w' => e = .returned (.bool false) ∧ w = w')) :
    Calls Try.prog 7 #[.int .i64 v, .int .i64 m, .int .i64 n] w fun e w' => e = .returned (.bool true) ∧ w = w' := by
  have C8 := Lib.hid (awake_calls w)
  go_enter Try.func7, Try.ntmps7
  go_wp2_with fail
  refine C1.out.mono ?_
  rintro e w' ⟨rfl, rfl⟩
  go_wp2_with fail
  refine C2.out.mono ?_
  rintro e w' ⟨rfl, rfl⟩
  go_wp2_with fail
  refine C3.out.mono ?_
  rintro e w' ⟨rfl, rfl⟩
  go_wp2_with fail
  refine C4.out.mono ?_
  rintro e w' ⟨rfl, rfl⟩
  go_wp2_with fail
  refine C5.out.mono ?_
  rintro e w' ⟨rfl, rfl⟩
  go_wp2_with fail
  refine C6.out.mono ?_
  rintro e w' ⟨rfl, rfl⟩
  go_wp2_with fail
  refine C8.out.mono ?_
  rintro e w' ⟨rfl, rfl⟩
  go_wp2
  go_ret
  exact ⟨rfl, rfl⟩

set_option maxRecDepth 100000 in
theorem samples_no_bad (v m n : Int) (w : World) (C1 : Hid (Calls Try.prog 34 #[.int .i64 v, .int .i64 m] w fun e w' => e = .returned (.tuple #[.int .u8 0, .bool false]) ∧ w = w')) (C2 : Hid (Calls Try.prog 35 #[.int .i64 v, .int .i64 m] w fun e w' => e = .returned (.bool false) ∧ w = w')) (hb : n < 1 ∨ 32 < n) (C4 : Hid (Calls Try.prog 37 #[.int .i64 v, .int .i64 n] w fun e w' => e = .returned (.tuple #[.int .u8 0, .bool false]) ∧ w = w')) :
    Calls Try.prog 7 #[.int .i64 v, .int .i64 m, .int .i64 n] w fun e w' => e = .returned (.bool true) ∧ w = w' := by
  have C8 := Lib.hid (awake_calls w)
  by_cases hb1 : n < 1
  · clear hb
    go_enter Try.func7, Try.ntmps7
    go_wp2_with fail
    refine C1.out.mono ?_
    rintro e w' ⟨rfl, rfl⟩
    go_wp2_with fail
    refine C2.out.mono ?_
    rintro e w' ⟨rfl, rfl⟩
    go_wp2_with fail
    refine C4.out.mono ?_
    rintro e w' ⟨rfl, rfl⟩
    go_wp2_with fail
    refine C8.out.mono ?_
    rintro e w' ⟨rfl, rfl⟩
    go_wp2
    go_ret
    exact ⟨rfl, rfl⟩
  · have hb2 : 32 < n := by omega
    clear hb
    go_enter Try.func7, Try.ntmps7
    go_wp2_with fail
    refine C1.out.mono ?_
    rintro e w' ⟨rfl, rfl⟩
    go_wp2_with fail
    refine C2.out.mono ?_
    rintro e w' ⟨rfl, rfl⟩
    go_wp2_with fail
    refine C4.out.mono ?_
    rintro e w' ⟨rfl, rfl⟩
    go_wp2_with fail
    refine C8.out.mono ?_
    rintro e w' ⟨rfl, rfl⟩
    go_wp2
    go_ret
    exact ⟨rfl, rfl⟩

set_option maxRecDepth 100000 in
theorem samples_no_yes (v m n : Int) (w : World) (C1 : Hid (Calls Try.prog 34 #[.int .i64 v, .int .i64 m] w fun e w' => e = .returned (.tuple #[.int .u8 0, .bool false]) ∧ w = w')) (C2 : Hid (Calls Try.prog 35 #[.int .i64 v, .int .i64 m] w fun e w' => e = .returned (.bool false) ∧ w = w')) (n1 : 1 ≤ n) (n2 : n ≤ 32) (P r : Int) (P0 : 2 ≤ P) (P1 : P ≤ 4294967296) (r0 : 0 ≤ r) (r1 : r ≤ 255) (C4 : Hid (Calls Try.prog 37 #[.int .i64 v, .int .i64 n] w fun e w' => e = .returned (.tuple #[.int .u8 r, .bool true]) ∧ w = w')) (C5 : Hid (Calls Try.prog 39 #[.int .i64 n] w fun e w' => e = .returned (.int .i64 P) ∧ w = w')) (C6 : Hid (Calls Try.prog 35 #[.int .i64 v, .int .i64 (P - 1)] w fun e w' => e = .returned (.bool true) ∧ w = w')) (C7 : Hid (Calls Try.prog 36 #[.int .i64 v, .int .i64 (P - 1)] w fun e w' => e = .returned (.int .i64 r) ∧ w = w')) :
    Calls Try.prog 7 #[.int .i64 v, .int .i64 m, .int .i64 n] w fun e w' => e = .returned (.bool true) ∧ w = w' := by
  have C8 := Lib.hid (awake_calls w)
  go_enter Try.func7, Try.ntmps7
  go_wp2_with fail
  refine C1.out.mono ?_
  rintro e w' ⟨rfl, rfl⟩
  go_wp2_with fail
  refine C2.out.mono ?_
  rintro e w' ⟨rfl, rfl⟩
  go_wp2_with fail
  refine C4.out.mono ?_
  rintro e w' ⟨rfl, rfl⟩
  go_wp2_with fail
  refine C5.out.mono ?_
  rintro e w' ⟨rfl, rfl⟩
  go_wp2_with fail
  refine C6.out.mono ?_
  rintro e w' ⟨rfl, rfl⟩
  go_wp2_with fail
  refine C7.out.mono ?_
  rintro e w' ⟨rfl, rfl⟩
  go_wp2_with fail
  refine C8.out.mono ?_
  rintro e w' ⟨rfl, rfl⟩
  go_wp2
  go_ret
  exact ⟨rfl, rfl⟩

set_option maxRecDepth 100000 in
theorem samples_no_no (v m n : Int) (w : World) (C1 : Hid (Calls Try.prog 34 #[.int .i64 v, .int .i64 m] w fun e w' => e = .returned (.tuple #[.int .u8 0, .bool false]) ∧ w = w')) (C2 : Hid (Calls Try.prog 35 #[.int .i64 v, .int .i64 m] w fun e w' => e = .returned (.bool false) ∧ w = w')) (n1 : 1 ≤ n) (n2 : n ≤ 32) (P : Int) (P0 : 2 ≤ P) (P1 : P ≤ 4294967296) (C4 : Hid (Calls Try.prog 37 #[.int .i64 v, .int .i64 n] w fun e w' => e = .returned (.tuple #[.int .u8 0, .bool false]) ∧ w = w')) (C5 : Hid (Calls Try.prog 39 #[.int .i64 n] w fun e w' => e = .returned (.int .i64 P) ∧ w = w')) (C6 : Hid (Calls Try.prog 35 #[.int .i64 v, .int .i64 (P - 1)] w fun e w' => e = .returned (.bool false) ∧ w = w')) :
    Calls Try.prog 7 #[.int .i64 v, .int .i64 m, .int .i64 n] w fun e w' => e = .returned (.bool true) ∧ w = w' := by
  have C8 := Lib.hid (awake_calls w)
  go_enter Try.func7, Try.ntmps7
  go_wp2_with fail
  refine C1.out.mono ?_
  rintro e w' ⟨rfl, rfl⟩
  go_wp2_with fail
  refine C2.out.mono ?_
  rintro e w' ⟨rfl, rfl⟩
  go_wp2_with fail
  refine C4.out.mono ?_
  rintro e w' ⟨rfl, rfl⟩
  go_wp2_with fail
  refine C5.out.mono ?_
  rintro e w' ⟨rfl, rfl⟩
  go_wp2_with fail
  refine C6.out.mono ?_
  rintro e w' ⟨rfl, rfl⟩
  go_wp2_with fail
  refine C8.out.mono ?_
  rintro e w' ⟨rfl, rfl⟩
  go_wp2
  go_ret
  exact ⟨rfl, rfl⟩

theorem samples_any (v m n : Int) (v0 : (Lit.int .i64 v).wf = true) (m0 : (Lit.int .i64 m).wf = true) (n0 : (Lit.int .i64 n).wf = true) (w : World) :
    Calls Try.prog 7 #[.int .i64 v, .int .i64 m, .int .i64 n] w fun e w' => e = .returned (.bool true) ∧ w = w' := by
  by_cases hb : n < 1 ∨ 32 < n
  · have C4 := Lib.hid (bits_bad v n w hb)
    cases h : may v m
    · exact samples_no_bad v m n w (Lib.hid (max_no v m w h)) (Lib.hid (h ▸ may_calls v m w)) hb C4
    · obtain ⟨h1, h2, h3, h4⟩ := may_of h
      exact samples_yes_bad v m n w (near v m) (near_0 h1 h3) (near_255 h1 h4) (Lib.hid (max_yes v m w h)) (Lib.hid (h ▸ may_calls v m w)) (Lib.hid (rmax_calls v m w h1 h2 h3 h4)) hb C4
  · obtain ⟨k, rfl⟩ : ∃ k : Nat, n = k := ⟨n.toNat, by omega⟩
    have k1 : 1 ≤ k := by omega
    have k2 : k ≤ 32 := by omega
    obtain ⟨P0, P1⟩ := pw_le k2
    have C5 := Lib.hid (power_calls k w k2)
    have P2 := pw_1 k1
    cases hk : may v (pw k - 1)
    · have C4 := Lib.hid (bits_no v k w k1 k2 hk)
      have C6 := Lib.hid (hk ▸ may_calls v (pw k - 1) w)
      cases h : may v m
      · exact samples_no_no v m k w (Lib.hid (max_no v m w h)) (Lib.hid (h ▸ may_calls v m w)) (by omega) (by omega) _ P2 P1 C4 C5 C6
      · obtain ⟨h1, h2, h3, h4⟩ := may_of h
        exact samples_yes_no v m k w (near v m) (near_0 h1 h3) (near_255 h1 h4) (Lib.hid (max_yes v m w h)) (Lib.hid (h ▸ may_calls v m w)) (Lib.hid (rmax_calls v m w h1 h2 h3 h4)) (by omega) (by omega) _ P2 P1 C4 C5 C6
    · have C4 := Lib.hid (bits_yes v k w k1 k2 hk)
      have C6 := Lib.hid (hk ▸ may_calls v (pw k - 1) w)
      obtain ⟨g1, g2, g3, g4⟩ := may_of hk
      have C7 := Lib.hid (rmax_calls v (pw k - 1) w g1 g2 g3 g4)
      cases h : may v m
      · exact samples_no_yes v m k w (Lib.hid (max_no v m w h)) (Lib.hid (h ▸ may_calls v m w)) (by omega) (by omega) _ _ P2 P1 (near_0 g1 g3) (near_255 g1 g4) C4 C5 C6 C7
      · obtain ⟨h1, h2, h3, h4⟩ := may_of h
        exact samples_yes_yes v m k w (near v m) (near_0 h1 h3) (near_255 h1 h4) (Lib.hid (max_yes v m w h)) (Lib.hid (h ▸ may_calls v m w)) (Lib.hid (rmax_calls v m w h1 h2 h3 h4)) (by omega) (by omega) _ _ P2 P1 (near_0 g1 g3) (near_255 g1 g4) C4 C5 C6 C7

end Go.Proofs.Ythgpjdnppknghaa.Sc
