/- The law ScaleRises, walked. -/
import Derived.Test.YthgpjdnppknghaaSca2
import Derived.Test.YthgpjdnppknghaaTnL
import Derived.BigQuiet
namespace Go.Proofs.Ythgpjdnppknghaa.Sc
open Go.ChangeShapes Go.WideShapes Go.ChangeAt Go.RowKit Go.Proofs.Ythgpjdnppknghaa.Le
set_option linter.unusedVariables false

theorem u32_of {z : Int} (h : (Lit.int .u32 z).wf = true) : 0 ≤ z ∧ z ≤ 4294967295 := by
  have h1 : IntKind.u32.min = 0 := rfl
  have h2 : IntKind.u32.max = 4294967295 := rfl
  simp only [Lit.wf, Bool.and_eq_true, decide_eq_true_eq] at h
  omega
theorem u8_of {z : Int} (h : (Lit.int .u8 z).wf = true) : 0 ≤ z ∧ z ≤ 255 := by
  have h1 : IntKind.u8.min = 0 := rfl
  have h2 : IntKind.u8.max = 255 := rfl
  simp only [Lit.wf, Bool.and_eq_true, decide_eq_true_eq] at h
  omega

theorem tm_of {v m : Int} (v0 : 0 ≤ v) (hm : 1 ≤ m) : ∃ a, v.tmod m = a ∧ 0 ≤ a ∧ a < m :=
  ⟨_, rfl, Int.tmod_nonneg _ v0, Int.tmod_lt_of_pos _ (by omega)⟩

set_option maxRecDepth 100000 in
theorem rises_any (v y m x : Int) (v0 : (Lit.int .u32 v).wf = true) (y0 : (Lit.int .u32 y).wf = true) (m0 : (Lit.int .u32 m).wf = true) (x0 : (Lit.int .u8 x).wf = true) (w : World) :
    Calls Try.prog 8 #[.int .u32 v, .int .u32 y, .int .u32 m, .int .u8 x] w fun e w' => e = .returned (.bool true) ∧ w.grownBy w' none := by
  obtain ⟨v1, v2⟩ := u32_of v0
  obtain ⟨y1, y2⟩ := u32_of y0
  obtain ⟨m1, m2⟩ := u32_of m0
  obtain ⟨x1, x2⟩ := u8_of x0
  clear v0 y0 m0 x0
  have C8 := Lib.hid awake_calls
  by_cases hm : m = 0
  · subst hm
    go_enter Try.func8, Try.ntmps8
    go_wp2_with fail
    refine (C8.out _).mono ?_
    rintro e w' ⟨rfl, rfl⟩
    go_wp2
    go_ret
    exact ⟨rfl, gb_refl _ _⟩
  · have hm1 : 1 ≤ m := by omega
    obtain ⟨a, ha, a1, a2⟩ := tm_of v1 hm1
    obtain ⟨b, hb, b1, b2⟩ := tm_of y1 hm1
    have Ca := fun w => max_yes a m w (may_yes hm1 m2 a1 (by omega))
    have Cb := fun w => max_yes b m w (may_yes hm1 m2 b1 (by omega))
    have C0 := fun w => max_yes 0 m w (may_yes hm1 m2 (by omega) (by omega))
    have Cm := fun w => max_yes m m w (may_yes hm1 m2 (by omega) (by omega))
    have Cx := fun w => max_yes x 255 w (may_yes (by omega) (by omega) x1 x2)
    simp only [near_zero hm1] at C0
    simp only [near_top hm1] at Cm
    simp only [near_self x1 x2] at Cx
    have na0 := near_0 (v := a) hm1 a1
    have na1 := near_255 (v := a) hm1 (by omega)
    have nb0 := near_0 (v := b) hm1 b1
    have nb1 := near_255 (v := b) hm1 (by omega)
    by_cases hlt : a < b
    · have hn := near_mono hm1 (show a ≤ b by omega)
      obtain ⟨p, hp⟩ : ∃ p, near a m = p := ⟨_, rfl⟩
      obtain ⟨q, hq⟩ : ∃ q, near b m = q := ⟨_, rfl⟩
      simp only [hp] at Ca hn na0 na1
      simp only [hq] at Cb hn nb0 nb1
      have Ca' := Lib.hid Ca
      have Cb' := Lib.hid Cb
      have C0' := Lib.hid C0
      have Cm' := Lib.hid Cm
      have Cx' := Lib.hid Cx
      clear Ca Cb C0 Cm Cx hp hq
      go_enter Try.func8, Try.ntmps8
      go_wp2_with fail
      go_quiet (fail)
      go_wp2_with fail
      refine (Ca'.out _).mono ?_
      rintro e w' ⟨rfl, rfl⟩
      go_wp2_with fail
      refine (Cb'.out _).mono ?_
      rintro e w' ⟨rfl, rfl⟩
      go_wp2_with fail
      refine (C0'.out _).mono ?_
      rintro e w' ⟨rfl, rfl⟩
      go_wp2_with fail
      refine (Cm'.out _).mono ?_
      rintro e w' ⟨rfl, rfl⟩
      go_wp2_with fail
      refine (Cx'.out _).mono ?_
      rintro e w' ⟨rfl, rfl⟩
      go_wp2_with fail
      refine (C8.out _).mono ?_
      rintro e w' ⟨rfl, rfl⟩
      go_wp2
      go_ret
      exact ⟨rfl, gb_drewN _ _ _⟩
    · by_cases heq : a = b
      · subst heq
        obtain ⟨p, hp⟩ : ∃ p, near a m = p := ⟨_, rfl⟩
        simp only [hp] at Ca na0 na1
        have Ca' := Lib.hid Ca
        have C0' := Lib.hid C0
        have Cm' := Lib.hid Cm
        have Cx' := Lib.hid Cx
        clear Ca Cb C0 Cm Cx hp nb0 nb1
        go_enter Try.func8, Try.ntmps8
        go_wp2_with fail
        go_quiet (fail)
        go_wp2_with fail
        refine (Ca'.out _).mono ?_
        rintro e w' ⟨rfl, rfl⟩
        go_wp2_with fail
        refine (Ca'.out _).mono ?_
        rintro e w' ⟨rfl, rfl⟩
        go_wp2_with fail
        refine (C0'.out _).mono ?_
        rintro e w' ⟨rfl, rfl⟩
        go_wp2_with fail
        refine (Cm'.out _).mono ?_
        rintro e w' ⟨rfl, rfl⟩
        go_wp2_with fail
        refine (Cx'.out _).mono ?_
        rintro e w' ⟨rfl, rfl⟩
        go_wp2_with fail
        refine (C8.out _).mono ?_
        rintro e w' ⟨rfl, rfl⟩
        go_wp2
        go_ret
        exact ⟨rfl, gb_drewN _ _ _⟩
      · have hba : b < a := by omega
        have hn := near_mono hm1 (show b ≤ a by omega)
        obtain ⟨p, hp⟩ : ∃ p, near a m = p := ⟨_, rfl⟩
        obtain ⟨q, hq⟩ : ∃ q, near b m = q := ⟨_, rfl⟩
        simp only [hp] at Ca hn na0 na1
        simp only [hq] at Cb hn nb0 nb1
        have Ca' := Lib.hid Ca
        have Cb' := Lib.hid Cb
        have C0' := Lib.hid C0
        have Cm' := Lib.hid Cm
        have Cx' := Lib.hid Cx
        clear Ca Cb C0 Cm Cx hp hq
        go_enter Try.func8, Try.ntmps8
        go_wp2_with fail
        go_quiet (fail)
        go_wp2_with fail
        refine (Cb'.out _).mono ?_
        rintro e w' ⟨rfl, rfl⟩
        go_wp2_with fail
        refine (Ca'.out _).mono ?_
        rintro e w' ⟨rfl, rfl⟩
        go_wp2_with fail
        refine (C0'.out _).mono ?_
        rintro e w' ⟨rfl, rfl⟩
        go_wp2_with fail
        refine (Cm'.out _).mono ?_
        rintro e w' ⟨rfl, rfl⟩
        go_wp2_with fail
        refine (Cx'.out _).mono ?_
        rintro e w' ⟨rfl, rfl⟩
        go_wp2_with fail
        refine (C8.out _).mono ?_
        rintro e w' ⟨rfl, rfl⟩
        go_wp2
        go_ret
        exact ⟨rfl, gb_drewN _ _ _⟩

end Go.Proofs.Ythgpjdnppknghaa.Sc
