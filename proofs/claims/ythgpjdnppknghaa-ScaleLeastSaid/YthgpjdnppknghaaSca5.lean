/- The law ScaleLeast, walked. -/
import Derived.Test.YthgpjdnppknghaaSca4
namespace Go.Proofs.Ythgpjdnppknghaa.Sc
open Go.ChangeShapes Go.WideShapes Go.ChangeAt Go.RowKit
set_option linter.unusedVariables false

theorem atleast_calls (v m : Int) (w : World) (v0 : 0 ≤ v) (v1 : v ≤ 255) (h1 : 1 ≤ m) (h2 : m ≤ 4294967295) :
    Calls Try.prog 62 #[.int .i64 v, .int .i64 m] w fun e w' => e = .returned (.int .i64 (leastV v m)) ∧ w = w' := by
  by_cases hv : v = 0
  · subst hv
    rw [show leastV 0 m = 0 from if_pos rfl]
    go_enter Try.func62, Try.ntmps62
    go_wp2
    go_ret
    exact ⟨rfl, rfl⟩
  · have p0 : 0 ≤ (2 * v - 1) * m := Int.mul_nonneg (by omega) (by omega)
    have p1 : (2 * v - 1) * m ≤ 509 * m := Int.mul_le_mul_of_nonneg_right (by omega) (by omega)
    have e : leastV v m = ((2 * v - 1) * m + 509) / 510 := if_neg hv
    have hT : ((2 * v - 1) * m + 510 - 1).tdiv 510 = leastV v m := by
      rw [e, show (2 * v - 1) * m + 510 - 1 = (2 * v - 1) * m + 509 from by omega]
      exact Int.tdiv_eq_ediv_of_nonneg (by omega)
    have l0 := least_0 v0 h1
    have l1 := least_m v0 v1 h1
    obtain ⟨L, hL⟩ : ∃ L, leastV v m = L := ⟨_, rfl⟩
    rw [hL] at hT l0 l1 ⊢
    clear e hL
    go_enter Try.func62, Try.ntmps62
    go_wp2
    go_ret
    exact ⟨by go_num, rfl⟩

theorem least_bad (v m : Int) (w : World) (h : m < 1 ∨ 4294967295 < m) :
    Calls Try.prog 40 #[.int .u8 v, .int .i64 m] w fun e w' => e = .returned (.tuple #[.int .i64 0, .bool false]) ∧ w = w' := by
  have K := gr_calls m w
  rw [grB_no h] at K
  have K' := Lib.hid K
  clear K h
  go_enter Try.func40, Try.ntmps40
  go_wp2_with fail
  refine K'.out.mono ?_
  rintro e w' ⟨rfl, rfl⟩
  go_wp2
  go_ret2
  exact ⟨rfl, rfl⟩

set_option maxRecDepth 100000 in
theorem least_no (v m : Int) (w : World) (v0 : 0 ≤ v) (v1 : v ≤ 255) (h1 : 1 ≤ m) (h2 : m ≤ 4294967295) (hne : near (leastV v m) m ≠ v) :
    Calls Try.prog 40 #[.int .u8 v, .int .i64 m] w fun e w' => e = .returned (.tuple #[.int .i64 0, .bool false]) ∧ w = w' := by
  have K := gr_calls m w
  rw [grB_yes h1 h2] at K
  have K' := Lib.hid K
  have A := atleast_calls v m w v0 v1 h1 h2
  have l0 := least_0 v0 h1
  have l1 := least_m v0 v1 h1
  have M := max_yes (leastV v m) m w (may_yes h1 h2 l0 l1)
  have q0 := near_0 h1 l0
  have q1 := near_255 h1 l1
  obtain ⟨L, hL⟩ : ∃ L, leastV v m = L := ⟨_, rfl⟩
  rw [hL] at A M l0 l1 q0 q1 hne
  obtain ⟨q, hq⟩ : ∃ q, near L m = q := ⟨_, rfl⟩
  rw [hq] at M q0 q1 hne
  have A' := Lib.hid A
  have M' := Lib.hid M
  clear K A M hL hq
  go_enter Try.func40, Try.ntmps40
  go_wp2_with fail
  refine K'.out.mono ?_
  rintro e w' ⟨rfl, rfl⟩
  go_wp2_with fail
  refine A'.out.mono ?_
  rintro e w' ⟨rfl, rfl⟩
  go_wp2_with fail
  refine M'.out.mono ?_
  rintro e w' ⟨rfl, rfl⟩
  go_wp2
  go_ret2
  exact ⟨rfl, rfl⟩

set_option maxRecDepth 100000 in
theorem least_yes (v m : Int) (w : World) (v0 : 0 ≤ v) (v1 : v ≤ 255) (h1 : 1 ≤ m) (h2 : m ≤ 4294967295) (heq : near (leastV v m) m = v) :
    Calls Try.prog 40 #[.int .u8 v, .int .i64 m] w fun e w' => e = .returned (.tuple #[.int .i64 (leastV v m), .bool true]) ∧ w = w' := by
  have K := gr_calls m w
  rw [grB_yes h1 h2] at K
  have K' := Lib.hid K
  have A := atleast_calls v m w v0 v1 h1 h2
  have l0 := least_0 v0 h1
  have l1 := least_m v0 v1 h1
  have M := max_yes (leastV v m) m w (may_yes h1 h2 l0 l1)
  rw [heq] at M
  clear heq
  obtain ⟨L, hL⟩ : ∃ L, leastV v m = L := ⟨_, rfl⟩
  rw [hL] at A M l0 l1 ⊢
  have A' := Lib.hid A
  have M' := Lib.hid M
  clear K A M hL
  go_enter Try.func40, Try.ntmps40
  go_wp2_with fail
  refine K'.out.mono ?_
  rintro e w' ⟨rfl, rfl⟩
  go_wp2_with fail
  refine A'.out.mono ?_
  rintro e w' ⟨rfl, rfl⟩
  go_wp2_with fail
  refine M'.out.mono ?_
  rintro e w' ⟨rfl, rfl⟩
  go_wp2
  go_ret2
  exact ⟨rfl, rfl⟩

set_option maxRecDepth 100000 in
theorem leastlaw_bad (v m : Int) (w : World) (h : m < 1 ∨ 4294967295 < m) :
    Calls Try.prog 9 #[.int .u8 v, .int .i64 m] w fun e w' => e = .returned (.bool true) ∧ w = w' := by
  have L := Lib.hid (least_bad v m w h)
  have C8 := Lib.hid (awake_calls w)
  by_cases h1 : m < 1
  · clear h
    go_enter Try.func9, Try.ntmps9
    go_wp2_with fail
    refine L.out.mono ?_
    rintro e w' ⟨rfl, rfl⟩
    go_wp2_with fail
    refine C8.out.mono ?_
    rintro e w' ⟨rfl, rfl⟩
    go_wp2
    go_ret
    exact ⟨rfl, rfl⟩
  · have h2 : 4294967295 < m := by omega
    clear h
    go_enter Try.func9, Try.ntmps9
    go_wp2_with fail
    refine L.out.mono ?_
    rintro e w' ⟨rfl, rfl⟩
    go_wp2_with fail
    refine C8.out.mono ?_
    rintro e w' ⟨rfl, rfl⟩
    go_wp2
    go_ret
    exact ⟨rfl, rfl⟩

set_option maxRecDepth 100000 in
theorem leastlaw_no (v m : Int) (w : World) (v0 : 0 ≤ v) (v1 : v ≤ 255) (h1 : 1 ≤ m) (h2 : m ≤ 4294967295) (hne : near (leastV v m) m ≠ v) :
    Calls Try.prog 9 #[.int .u8 v, .int .i64 m] w fun e w' => e = .returned (.bool true) ∧ w = w' := by
  have L := Lib.hid (least_no v m w v0 v1 h1 h2 hne)
  have C8 := Lib.hid (awake_calls w)
  have hm : m < 255 := by
    rcases Int.lt_or_le m 255 with h | h
    · exact h
    · exact absurd (least_is v0 v1 h) hne
  have HN := Lib.hid hne
  clear hne
  go_enter Try.func9, Try.ntmps9
  go_wp2_with fail
  refine L.out.mono ?_
  rintro e w' ⟨rfl, rfl⟩
  go_wp2_with fail
  go_loop [7] (fun i => ∃ x : Nat, (x : Int) ≤ m + 1 ∧ i = .int .i64 (x : Int)) (fun i => 300 - (intOf i).toNat)
  case atStart => exact ⟨0, by omega, rfl⟩
  case round =>
    obtain ⟨x, hx, rfl⟩ := hrel
    by_cases hlt : (x : Int) ≤ m
    · have R := Lib.hid (rmax_calls x m w h1 h2 (by omega) hlt)
      have hne := least_none (x := (x : Int)) v0 h1 (by omega) HN.out
      obtain ⟨q, hq⟩ : ∃ q, near x m = q := ⟨_, rfl⟩
      rw [hq] at R hne
      clear hq
      go_wp2_with fail
      refine R.out.mono ?_
      rintro e w' ⟨rfl, rfl⟩
      go_wp2
      go_round
      case rel => exact ⟨x + 1, by omega, by go_num⟩
      case measure => simp [intOf]; omega
    · have hgt : m < (x : Int) := by omega
      go_wp2_with fail
      refine C8.out.mono ?_
      rintro e w' ⟨rfl, rfl⟩
      go_wp2
      go_ret
      exact ⟨rfl, rfl⟩

set_option maxRecDepth 100000 in
theorem leastlaw_yes (v m : Int) (w : World) (v0 : 0 ≤ v) (v1 : v ≤ 255) (h1 : 1 ≤ m) (h2 : m ≤ 4294967295) (heq : near (leastV v m) m = v) :
    Calls Try.prog 9 #[.int .u8 v, .int .i64 m] w fun e w' => e = .returned (.bool true) ∧ w = w' := by
  have L := Lib.hid (least_yes v m w v0 v1 h1 h2 heq)
  have C8 := Lib.hid (awake_calls w)
  have l0 := least_0 v0 h1
  have l1 := least_m v0 v1 h1
  have R := rmax_calls (leastV v m) m w h1 h2 l0 l1
  rw [heq] at R
  have hah := Lib.hid (fun x (hx : 0 ≤ x) (h : x < leastV v m) => least_ahead (v := v) h1 hx h)
  clear heq
  obtain ⟨l, hl⟩ : ∃ l, leastV v m = l := ⟨_, rfl⟩
  rw [hl] at L l0 l1 R hah
  have R' := Lib.hid R
  clear R hl
  by_cases hz : l = 0
  · subst hz
    go_enter Try.func9, Try.ntmps9
    go_wp2_with fail
    refine L.out.mono ?_
    rintro e w' ⟨rfl, rfl⟩
    go_wp2_with fail
    refine R'.out.mono ?_
    rintro e w' ⟨rfl, rfl⟩
    go_wp2_with fail
    refine C8.out.mono ?_
    rintro e w' ⟨rfl, rfl⟩
    go_wp2
    go_ret
    exact ⟨rfl, rfl⟩
  · have hlt := hah.out (l - 1) (by omega) (by omega)
    have S := rmax_calls (l - 1) m w h1 h2 (by omega) (by omega)
    obtain ⟨q, hq⟩ : ∃ q, near (l - 1) m = q := ⟨_, rfl⟩
    rw [hq] at S hlt
    have S' := Lib.hid S
    clear S hq
    go_enter Try.func9, Try.ntmps9
    go_wp2_with fail
    refine L.out.mono ?_
    rintro e w' ⟨rfl, rfl⟩
    go_wp2_with fail
    refine R'.out.mono ?_
    rintro e w' ⟨rfl, rfl⟩
    go_wp2_with fail
    refine S'.out.mono ?_
    rintro e w' ⟨rfl, rfl⟩
    go_wp2_with fail
    refine C8.out.mono ?_
    rintro e w' ⟨rfl, rfl⟩
    go_wp2
    go_ret
    exact ⟨rfl, rfl⟩

theorem least_any (v m : Int) (v0 : (Lit.int .u8 v).wf = true) (m0 : (Lit.int .i64 m).wf = true) (w : World) :
    Calls Try.prog 9 #[.int .u8 v, .int .i64 m] w fun e w' => e = .returned (.bool true) ∧ w = w' := by
  obtain ⟨v1, v2⟩ := u8_of v0
  by_cases h : m < 1 ∨ 4294967295 < m
  · exact leastlaw_bad v m w h
  · by_cases he : near (leastV v m) m = v
    · exact leastlaw_yes v m w v1 v2 (by omega) (by omega) he
    · exact leastlaw_no v m w v1 v2 (by omega) (by omega) he

end Go.Proofs.Ythgpjdnppknghaa.Sc
