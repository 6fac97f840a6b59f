/- What heads of two formats have in common: what is wrong with one. -/
import Derived.Test.YtjdhlehpoclnjaaGreatSh1
namespace Go.Proofs.YtjdhlehpoclnjaaGreat.Sh
open Go.ChangeShapes Go.WideShapes Go.ChangeAt Go.RowKit
open Go.Proofs.YtjdhlehpoclnjaaGreat.Le Go.Proofs.YtjdhlehpoclnjaaGreat.Tk Go.Proofs.YtjdhlehpoclnjaaGreat.Sr
set_option linter.unusedVariables false

set_option maxRecDepth 100000 in
set_option maxHeartbeats 400000 in
theorem wrong_calls (b sg : ByteArray) (K : Nat) (M : MK sg b K) (h : sg.size + 8 ≤ b.size) (hb : b.size ≤ 1000) (W : World) :
    Calls Tryz.prog 95 #[.string b, .string sg] W fun e w' => e = .returned (.tuple #[.int .i64 (kdS sg.size K (beV b sg.size) (beV b (sg.size + 4)) : Nat), .int .i64 (plS sg.size K (beV b sg.size) (beV b (sg.size + 4)) : Nat)]) ∧ W.grownBy w' none := by
  have KS := fun u => sides_calls b sg h u
  unfold kdS plS
  obtain ⟨w, hw⟩ : ∃ w, beV b sg.size = w := ⟨_, rfl⟩
  obtain ⟨g, hg⟩ : ∃ w, beV b (sg.size + 4) = w := ⟨_, rfl⟩
  rw [hw, hg] at KS
  rw [hw, hg]
  obtain ⟨m, hm⟩ : ∃ m, sg.size = m := ⟨_, rfl⟩
  have HM := Lib.hid M
  have HMM := Lib.hid hm
  have HS := Lib.hid h
  have HB := Lib.hid hb
  have KS := Lib.hid KS
  have K1 := fun u => side_calls w u
  have K2 := fun u => side_calls g u
  obtain ⟨sw, hsw⟩ : ∃ s, sdK w = s := ⟨_, rfl⟩
  obtain ⟨sh, hsh⟩ : ∃ s, sdK g = s := ⟨_, rfl⟩
  rw [hsw] at K1 ⊢
  rw [hsh] at K2 ⊢
  rw [hm]
  obtain ⟨kd, hkd⟩ : ∃ n : Nat, (if K < m then 2 else if sw ≠ 0 then sw else sh) = n := ⟨_, rfl⟩
  obtain ⟨pl, hpl⟩ : ∃ n : Nat, (if K < m then K else if sw ≠ 0 then m else if sh ≠ 0 then m + 4 else 0) = n := ⟨_, rfl⟩
  rw [hkd, hpl]
  have HKD := Lib.hid hkd
  have HPL := Lib.hid hpl
  have hmb : m ≤ 1000 := by omega
  have K1 := Lib.hid K1
  have K2 := Lib.hid K2
  have HLE := Lib.hid (show K ≤ m from hm ▸ M.le)
  clear hw hg hm M h hb hsw hsh hkd hpl
  have q1 := HMM.out
  go_enter Tryz.func95, Tryz.ntmps95
  go_wp2_with fail
  go_loopg [11] (m + 1) (fun q iv wr => ∃ k : Nat, k ≤ K ∧ q = m + 1 - k ∧ iv = .int .i64 k ∧ W.grownBy wr none)
  case atStart => exact ⟨0, by omega, rfl, rfl, gb_refl _ _⟩
  case round =>
    obtain ⟨k, hk, rfl, rfl, G⟩ := hrel
    have HG := Lib.hid G
    clear G
    by_cases hlt : k < m
    · have hks : k < sg.size := by omega
      have hkb : k < b.size := by have := HS.out; omega
      have hcb := bt_at b k hkb
      have hcs := bt_at sg k hks
      have d1 : decide ((k : Int) < (m : Int)) = true := decide_eq_true (by omega)
      by_cases hkK : k < K
      · have he := HM.out.yes k hkK
        rw [he] at hcb
        obtain ⟨c, hc⟩ : ∃ c, bt sg k = c := ⟨_, rfl⟩
        rw [hc] at hcb hcs
        clear hc he q1
        go_wp2_with fail
        go_quiet (fail)
        go_wp2
        go_roundg (m + 1 - (k + 1))
        case measure => omega
        case rel => exact ⟨k + 1, by omega, rfl, by go_num, gb_trans HG.out (gb_drewN _ _ _)⟩
      · obtain rfl : k = K := by omega
        have he := HM.out.no hks
        obtain ⟨c, hc⟩ : ∃ c, bt b k = c := ⟨_, rfl⟩
        obtain ⟨d, hd⟩ : ∃ c, bt sg k = c := ⟨_, rfl⟩
        rw [hc, hd] at he
        rw [hc] at hcb
        rw [hd] at hcs
        have d2 : ((c : Int) != (d : Int)) = true := by rw [bne_iff_ne]; omega
        have d2' : ¬ (c : Int) = (d : Int) := by omega
        have e1 : kd = 2 := by rw [← HKD.out, if_pos hlt]
        have e2 : pl = k := by rw [← HPL.out, if_pos hlt]
        have E := Lib.hid (And.intro e1 e2)
        clear hc hd he q1 hk e1 e2
        go_wp2_with fail
        go_quiet (fail)
        go_wp2
        go_ret2
        exact ⟨by rw [E.out.1, E.out.2]; rfl, gb_trans HG.out (gb_drewN _ _ _)⟩
    · have d1 : decide ((k : Int) < (m : Int)) = false := decide_eq_false (by omega)
      have hKm : ¬ K < m := by have := HLE.out; omega
      have e1 := HKD.out
      have e2 := HPL.out
      rw [if_neg hKm] at e1 e2
      have E := Lib.hid (And.intro e1 e2)
      clear hKm hk e1 e2
      go_wp2_with fail
      refine (KS.out _).mono ?_
      rintro e w2 ⟨rfl, G2⟩
      have HG2 := Lib.hid (gb_trans HG.out G2)
      clear G2 HG
      go_wp2_with fail
      refine (K1.out _).mono ?_
      rintro e w' ⟨rfl, rfl⟩
      by_cases hw0 : sw = 0
      · subst hw0
        go_wp2_with fail
        refine (K2.out _).mono ?_
        rintro e w' ⟨rfl, rfl⟩
        by_cases hh0 : sh = 0
        · subst hh0
          go_wp2
          go_ret2
          exact ⟨by rw [← E.out.1, ← E.out.2]; rfl, HG2.out⟩
        · have d3 : ((sh : Int) != 0) = true := by rw [bne_iff_ne]; omega
          have d3' : ¬ (sh : Int) = 0 := by omega
          have E2 := Lib.hid hh0
          clear hh0
          go_wp2
          go_ret2
          exact ⟨by rw [← E.out.1, ← E.out.2, if_neg (by decide), if_neg (by decide), if_pos E2.out]; simp, HG2.out⟩
      · have d3 : ((sw : Int) != 0) = true := by rw [bne_iff_ne]; omega
        have d3' : ¬ (sw : Int) = 0 := by omega
        have E2 := Lib.hid hw0
        clear hw0
        go_wp2
        go_ret2
        exact ⟨by rw [← E.out.1, ← E.out.2, if_pos E2.out, if_pos E2.out]; rfl, HG2.out⟩

end Go.Proofs.YtjdhlehpoclnjaaGreat.Sh
