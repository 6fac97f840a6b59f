/- Texts of one kind, one behind the other: Qw5. -/
import Derived.Deep.LoopGhost
import Derived.Test.YtmhghkgcfgacdaaGreatG25
/- Layer 26: how many pixels are alike. -/
namespace Go.Proofs.YtmhghkgcfgacdaaGreat.Qw
open Go.ChangeShapes Go.WideShapes Go.ChangeAt Go.RowKit Go.Proofs.YtmhghkgcfgacdaaGreat.Le
set_option linter.unusedVariables false

/-- N pixels lie from a place on. -/
def PX (bk off N : Nat) (p : Nat → Nat → Nat) (w : World) : Prop := ∀ k j, k < N → j < 4 → w.cell? ⟨bk, off + (4 * k + j), none⟩ = some (.int .u8 (p k j : Nat))
theorem PX.kept {bk off N : Nat} {p : Nat → Nat → Nat} {w w' : World} (h : PX bk off N p w) (g : w.grownBy w' none) : PX bk off N p w' := fun k j hk hj => g.cell (h k j hk hj) (by simp)
/-- The first R of them are alike, and no more, or as many as a step tells at most, or there is none behind them. -/
structure AL (N R : Nat) (p : Nat → Nat → Nat) : Prop where
  one : 1 ≤ R
  most : R ≤ 62
  le : R ≤ N
  yes : ∀ k j, k < R → j < 4 → p k j = p 0 j
  no : R < 62 → R < N → ¬ (p R 0 = p 0 0 ∧ p R 1 = p 0 1 ∧ p R 2 = p 0 2 ∧ p R 3 = p 0 3)
theorem al_ex (N : Nat) (p : Nat → Nat → Nat) (hN : 1 ≤ N) : ∃ R, AL N R p := by
  have : ∀ m R, m = 62 - R → 1 ≤ R → R ≤ 62 → R ≤ N → (∀ k j, k < R → j < 4 → p k j = p 0 j) → ∃ R, AL N R p := by
    intro m
    induction m with
    | zero => intro R h1 h2 h3 h4 h5; exact ⟨R, h2, h3, h4, h5, fun h => by omega⟩
    | succ m ih =>
      intro R h1 h2 h3 h4 h5
      by_cases hR : R < N ∧ (p R 0 = p 0 0 ∧ p R 1 = p 0 1 ∧ p R 2 = p 0 2 ∧ p R 3 = p 0 3)
      · refine ih (R + 1) (by omega) (by omega) (by omega) (by omega) (fun k j hk hj => ?_)
        by_cases e : k = R
        · subst e
          have : j = 0 ∨ j = 1 ∨ j = 2 ∨ j = 3 := by omega
          rcases this with rfl | rfl | rfl | rfl
          · exact hR.2.1
          · exact hR.2.2.1
          · exact hR.2.2.2.1
          · exact hR.2.2.2.2
        · exact h5 k j (by omega) hj
      · exact ⟨R, h2, h3, h4, h5, fun _ h => fun q => hR ⟨h, q⟩⟩
  exact this _ 1 rfl (Nat.le_refl _) (by decide) hN (fun k j hk _ => by rw [show k = 0 by omega])
theorem first_at (bk off N c k : Nat) (p : Nat → Nat → Nat) (w : World) (h : PX bk off N p w) (hk : k < N) (n : Nat) (hn : 4 ≤ n) :
    Calls Tryz.prog 56 #[.slice (some ⟨bk, off + 4 * k, none⟩) n c] w fun e w' => e = .returned (cQ (p k 0) (p k 1) (p k 2) (p k 3)) ∧ w.grownBy w' none :=
  first_calls bk (off + 4 * k) n c _ _ _ _ w hn (h k 0 hk (by decide)) (h k 1 hk (by decide)) (h k 2 hk (by decide)) (h k 3 hk (by decide))

theorem size8q (w : World) : (sizeOf 5).run Tryz.prog w = .ok 1 w := by
  have h : (Tryz.prog.info? 5).map (·.size) = some 1 := by kernel_rfl
  cases hq : Tryz.prog.info? 5 with
  | none => simp [hq] at h
  | some i =>
    have hi : i.size = 1 := by simpa [hq] using h
    simp [sizeOf, typeInfo, hq, hi]
theorem tail_in (g off n cap lo : Nat) (h1 : lo ≤ n) (h2 : n ≤ cap) (h3 : lo < cap) (w : World) :
    (Instr.slice 25 (.slice (some ⟨g, off, none⟩) n cap) (some (.int .i64 (lo : Nat))) none none).run Tryz.prog w = .ok (.slice (some ⟨g, off + lo, none⟩) (n - lo) (cap - lo)) w := by
  have ht' : Tryz.prog.underlying 25 = some (.slice (Tryz.prog.elem 25)) := by kernel_rfl
  have he : Tryz.prog.elem 25 = 5 := by kernel_rfl
  have hs := size8q w
  rw [run_slice_l w _ _ _ _ ht' .i64 _ (by omega) (by omega), he, hs]
  simp [Result.andThen, sliced, Addr.add, show ¬ cap = lo from by omega]

set_option maxRecDepth 100000 in
set_option maxHeartbeats 1000000 in
theorem alike_calls (bk off N c R : Nat) (p : Nat → Nat → Nat) (w : World) (h : PX bk off N p w) (A : AL N R p) (hc : 4 * N ≤ c) (hN : N ≤ 100000) (hcm : c ≤ 9223372036854775807) :
    Calls Tryz.prog 57 #[.slice (some ⟨bk, off, none⟩) (4 * N : Nat) c] w fun e w' => e = .returned (.int .i64 R) ∧ w.grownBy w' none := by
  have HP := Lib.hid h
  have HA := Lib.hid A
  have HN := Lib.hid hN
  have HC := Lib.hid hc
  obtain ⟨n, hn⟩ : ∃ n, 4 * N = n := ⟨_, rfl⟩
  rw [hn]
  have HE := Lib.hid hn
  have KF := Lib.hid (fun k (hk : k < N) (m c' : Nat) (hm : 4 ≤ m) u (g : w.grownBy u none) => first_at bk off N c' k p u (h.kept g) hk m hm)
  clear h A hc hN hn
  go_enter Tryz.func57, Tryz.ntmps57
  go_wp2_with fail
  go_loopg [3] 62 (fun q iv wr => ∃ k : Nat, 1 ≤ k ∧ k ≤ R ∧ q = 63 - k ∧ iv = .int .i64 (k : Int) ∧ w.grownBy wr none)
  case atStart => exact ⟨1, Nat.le_refl _, HA.out.one, rfl, rfl, gb_refl _ _⟩
  case round =>
    obtain ⟨k, hk1, hk, rfl, rfl, G⟩ := hrel
    have HG := Lib.hid G
    clear G
    have hw : IntKind.i64.wrap (4 * (k : Int)) = 4 * (k : Int) := IntWalk.i64_in _ (by have := HA.out.most; omega)
    have hw2 : IntKind.i64.wrap ((k : Int) + 1) = (k : Int) + 1 := IntWalk.i64_in _ (by have := HA.out.most; omega)
    by_cases hlt : k < R
    · have d1 : (k : Int) < 62 := by have := HA.out.most; omega
      have d2 : 4 * (k : Int) < (n : Int) := by have := HA.out.le; have := HE.out; omega
      have hkN : k < N := by have := HA.out.le; omega
      have hsl : ∀ u, (Instr.slice 25 (.slice (some ⟨bk, off, none⟩) n c) (some (.int .i64 (4 * (k : Int)))) none none).run Tryz.prog u = .ok (.slice (some ⟨bk, off + 4 * k, none⟩) (n - 4 * k) (c - 4 * k)) u := fun u => by
        have := tail_in bk off n c (4 * k) (by have := HE.out; omega) (by have := HC.out; have := HE.out; omega) (by have := HC.out; omega) u
        rw [show ((4 * k : Nat) : Int) = 4 * (k : Int) by omega] at this
        exact this
      have hy := HA.out.yes k
      have K1 := fun m c' hm u g => KF.out k hkN m c' hm u g
      rw [hy 0 hlt (by decide), hy 1 hlt (by decide), hy 2 hlt (by decide), hy 3 hlt (by decide)] at K1
      have K1 := Lib.hid K1
      have K0 := fun m c' hm u g => KF.out 0 (by omega) m c' hm u g
      simp only [Nat.mul_zero, Nat.add_zero] at K0
      have K0 := Lib.hid K0
      clear hy
      go_wp2_with fail
      refine (K1.out _ _ (by have := HE.out; omega) wr HG.out).mono ?_
      rintro e w2 ⟨rfl, g2⟩
      have HG2 := Lib.hid (gb_trans HG.out g2)
      clear g2 K1 hsl
      go_wp2_with fail
      refine (K0.out _ _ (by have := HE.out; omega) w2 HG2.out).mono ?_
      rintro e w3 ⟨rfl, g3⟩
      have HG3 := Lib.hid (gb_trans HG2.out g3)
      clear g3 K0 HG2 HG
      simp only [cQ]
      go_wp2_with fail
      go_roundg (63 - (k + 1))
      case measure => have := HA.out.most; omega
      case rel => exact ⟨k + 1, by omega, by omega, rfl, by go_num, HG3.out⟩
    · obtain rfl : k = R := by omega
      by_cases h62 : k < 62
      · have d1 : (k : Int) < 62 := by omega
        by_cases hN : k < N
        · have d2 : 4 * (k : Int) < (n : Int) := by have := HE.out; omega
          have hsl : ∀ u, (Instr.slice 25 (.slice (some ⟨bk, off, none⟩) n c) (some (.int .i64 (4 * (k : Int)))) none none).run Tryz.prog u = .ok (.slice (some ⟨bk, off + 4 * k, none⟩) (n - 4 * k) (c - 4 * k)) u := fun u => by
            have := tail_in bk off n c (4 * k) (by have := HE.out; omega) (by have := HC.out; have := HE.out; omega) (by have := HC.out; omega) u
            rw [show ((4 * k : Nat) : Int) = 4 * (k : Int) by omega] at this
            exact this
          have hno := HA.out.no h62 hN
          obtain ⟨a0, e0⟩ : ∃ x, p k 0 = x := ⟨_, rfl⟩
          obtain ⟨a1, e1⟩ : ∃ x, p k 1 = x := ⟨_, rfl⟩
          obtain ⟨a2, e2⟩ : ∃ x, p k 2 = x := ⟨_, rfl⟩
          obtain ⟨a3, e3⟩ : ∃ x, p k 3 = x := ⟨_, rfl⟩
          obtain ⟨b0, f0⟩ : ∃ x, p 0 0 = x := ⟨_, rfl⟩
          obtain ⟨b1, f1⟩ : ∃ x, p 0 1 = x := ⟨_, rfl⟩
          obtain ⟨b2, f2⟩ : ∃ x, p 0 2 = x := ⟨_, rfl⟩
          obtain ⟨b3, f3⟩ : ∃ x, p 0 3 = x := ⟨_, rfl⟩
          have K1 := fun m c' hm u g => KF.out k hN m c' hm u g
          have K0 := fun m c' hm u g => KF.out 0 (by omega) m c' hm u g
          simp only [Nat.mul_zero, Nat.add_zero] at K0
          rw [e0, e1, e2, e3, f0, f1, f2, f3] at hno
          simp only [e0, e1, e2, e3] at K1
          simp only [f0, f1, f2, f3] at K0
          have K1 := Lib.hid K1
          have K0 := Lib.hid K0
          have HNO := Lib.hid hno
          clear hno e0 e1 e2 e3 f0 f1 f2 f3
          go_wp2_with fail
          refine (K1.out _ _ (by have := HE.out; omega) wr HG.out).mono ?_
          rintro e w2 ⟨rfl, g2⟩
          have HG2 := Lib.hid (gb_trans HG.out g2)
          clear g2 K1 hsl
          go_wp2_with fail
          refine (K0.out _ _ (by have := HE.out; omega) w2 HG2.out).mono ?_
          rintro e w3 ⟨rfl, g3⟩
          have HG3 := Lib.hid (gb_trans HG2.out g3)
          clear g3 K0 HG2 HG
          simp only [cQ]
          go_wp2_with fail
          all_goals
            first
              | (go_ret; exact ⟨rfl, HG3.out⟩)
              | exact absurd ⟨by omega, by omega, by omega, by omega⟩ HNO.out
        · obtain rfl : k = N := by have := HA.out.le; omega
          have d2 : ¬ 4 * (k : Int) < (n : Int) := by have := HE.out; omega
          go_wp2
          go_ret
          exact ⟨rfl, HG.out⟩
      · have d1 : ¬ (k : Int) < 62 := by omega
        go_wp2
        go_ret
        exact ⟨rfl, HG.out⟩

end Go.Proofs.YtmhghkgcfgacdaaGreat.Qw
