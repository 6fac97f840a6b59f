/- Layer 9: the document's Four, walked. -/
import Derived.Test.YtljbhahdaepecaaDoorMasG
namespace Go.Proofs.YtljbhahdaepecaaDoor.Ma
open Go.ChangeShapes Go.WideShapes Go.ChangeAt Go.RowKit
open Go.Proofs.YtljbhahdaepecaaDoor.Le Go.Proofs.YtljbhahdaepecaaDoor.Sc
set_option linter.unusedVariables false

/-- The document's Find, of a mask. -/
def RFindIs (M width s n c : Int) : Prop := ∀ u, Calls Tryd.prog 9 #[.int .i64 M, .int .i64 width] u fun e w' => e = .returned (.tuple #[.int .i64 s, .int .i64 n, .int .i64 c]) ∧ u = w'

/-- What stops the document's loop at t. -/
def RStops (M : Nat → Int) (s n m : Nat → Nat) (width : Int) (t : Nat) (i c : Int) : Prop :=
  (t = 4 ∧ i = 0 ∧ c = 0) ∨
  (t < 4 ∧ i = t ∧ (c != 0) = true ∧ RFindIs (M t) width 0 0 c) ∨
  (t < 4 ∧ i = t ∧ c = 11 ∧ RFindIs (M t) width (s t) (n t) 0 ∧ M t = (m t : Nat) ∧ ∃ y, y < t ∧ bothB (m t) (m y) 32 = true ∧ ∀ j, j < y → bothB (m t) (m j) 32 = false)

theorem both_quiet (v w : Nat) (x : Bool) (W : World) (k : Nat) (h : bothB v w 32 = x) :
    Calls Tryd.prog 25 #[.int .i64 v, .int .i64 w] (W.drewN k) fun e w' => e = .returned (.bool x) ∧ w' = W.drewN k := by
  have := both_calls v w (W.drewN k)
  rw [h] at this
  exact this.mono (fun _ _ ⟨a, b⟩ => ⟨a, b.symm⟩)

set_option maxRecDepth 100000 in
set_option maxHeartbeats 4000000 in
theorem rfour_core (M : Nat → Int) (s n m : Nat → Nat) (width : Int) (t b : Nat) (r c : Int) (W : World) (ht : t ≤ 4)
    (hcell : ∀ k, k < 4 → W.cell? ⟨b, k, none⟩ = some (.int .i64 (M k)))
    (hM : ∀ k, k < t → M k = (m k : Nat))
    (hx : ∀ k, k < t → ∀ j, j < k → bothB (m k) (m j) 32 = false)
    (KF : ∀ k, k < t → RFindIs (M k) width (s k) (n k) 0) (hS : RStops M s n m width t r c) :
    Calls Tryd.prog 15 #[.slice (some ⟨b, 0, none⟩) 4 4, .int .i64 width] W
    fun e w' => e = .returned (.tuple #[.int .i64 r, .int .i64 c]) ∧ W.grownBy w' none := by
  have KF' := Lib.hid KF
  have HM := Lib.hid hM
  have HX := Lib.hid hx
  have HC := Lib.hid hcell
  have HS := Lib.hid hS
  clear KF hM hx hcell hS
  go_enter Tryd.func15, Tryd.ntmps15
  go_wp2_with fail
  go_loopg [6] 5 (fun q iv wr => ∃ (k : Nat), k ≤ t ∧ q = 5 - k ∧ iv = .int .i64 k ∧ W.grownBy wr none)
  case atStart => exact ⟨0, by omega, rfl, rfl, gb_refl _ _⟩
  case round =>
    obtain ⟨k, hk, rfl, rfl, G⟩ := hrel
    have HG := Lib.hid G
    clear G
    by_cases hkt : k < t
    · have h4 : k < 4 := by omega
      have c0 := HG.out.cell (HC.out k h4) (by simp)
      rw [HM.out k hkt] at c0
      have KFk := KF'.out k hkt wr
      rw [HM.out k hkt] at KFk
      obtain ⟨mk, hmk⟩ : ∃ y, m k = y := ⟨_, rfl⟩
      rw [hmk] at c0 KFk
      have HMK := Lib.hid hmk
      have KFh := Lib.hid KFk
      clear KFk hmk
      go_wp2_with fail
      refine KFh.out.mono ?_
      rintro e w' ⟨rfl, rfl⟩
      go_wp2_with fail
      go_loopg [10] 5 (fun q jv w2 => ∃ (j : Nat), j ≤ k ∧ q = 5 - j ∧ jv = .int .i64 j ∧ W.grownBy w2 none)
      case atStart => exact ⟨0, by omega, rfl, rfl, HG.out⟩
      case round =>
        obtain ⟨j, hj, rfl, rfl, G2⟩ := hrel
        have HG2 := Lib.hid G2
        clear G2 c0
        have c0 := HG2.out.cell (HC.out k h4) (by simp)
        rw [HM.out k hkt, HMK.out] at c0
        by_cases hjk : j < k
        · have c1 := HG2.out.cell (HC.out j (by omega)) (by simp)
          rw [HM.out j (by omega)] at c1
          have hb := HX.out k hkt j hjk
          rw [HMK.out] at hb
          obtain ⟨mj, hmj⟩ : ∃ y, m j = y := ⟨_, rfl⟩
          rw [hmj] at c1 hb
          have BQ := Lib.hid (fun u q => both_quiet mk mj false u q hb)
          clear hb hmj
          go_wp2_with fail
          go_quiet ((go_at_call 25; exact Calls.quiet_of_same (BQ.out _ _)))
          go_wp2
          go_roundg (5 - (j + 1))
          case measure => omega
          case rel => exact ⟨j + 1, by omega, rfl, by go_num, gb_trans HG2.out (gb_drewN _ _ _)⟩
        · obtain rfl : j = k := by omega
          go_wp2
          go_roundg (5 - (j + 1))
          case measure => omega
          case rel => exact ⟨j + 1, by omega, rfl, by go_num, HG2.out⟩
    · obtain rfl : k = t := by omega
      rcases HS.out with ⟨h4, hr, hc⟩ | ⟨h4, hr, hc, KE⟩ | ⟨h4, hr, hc, KE, hMt, y, hy, hyb, hyj⟩
      · subst h4 hr hc
        go_wp2
        go_ret2
        exact ⟨rfl, HG.out⟩
      · subst hr
        have c0 := HG.out.cell (HC.out k h4) (by simp)
        have KEk := KE wr
        obtain ⟨mk, hmk⟩ : ∃ y, M k = y := ⟨_, rfl⟩
        rw [hmk] at c0 KEk
        have KEh := Lib.hid KEk
        clear KE KEk hmk
        go_wp2_with fail
        refine KEh.out.mono ?_
        rintro e w' ⟨rfl, rfl⟩
        go_wp2
        go_ret2
        exact ⟨rfl, HG.out⟩
      · subst hr hc
        have c0 := HG.out.cell (HC.out k h4) (by simp)
        have KEk := KE wr
        rw [hMt] at c0 KEk
        obtain ⟨mk, hmk⟩ : ∃ y, m k = y := ⟨_, rfl⟩
        rw [hmk] at c0 KEk hyb
        simp only [hmk] at hyj
        have HMT := Lib.hid (hMt.trans (by rw [hmk]))
        have HYJ := Lib.hid hyj
        have HYB := Lib.hid hyb
        have KEh := Lib.hid KEk
        clear KE KEk hmk hMt hyb hyj
        go_wp2_with fail
        refine KEh.out.mono ?_
        rintro e w' ⟨rfl, rfl⟩
        go_wp2_with fail
        go_loopg [10] 5 (fun q jv w2 => ∃ (j : Nat), j ≤ y ∧ q = 5 - j ∧ jv = .int .i64 j ∧ W.grownBy w2 none)
        case atStart => exact ⟨0, by omega, rfl, rfl, HG.out⟩
        case round =>
          obtain ⟨j, hj, rfl, rfl, G2⟩ := hrel
          have HG2 := Lib.hid G2
          clear G2 c0
          have hjk : j < k := by omega
          have c0 := HG2.out.cell (HC.out k h4) (by simp)
          rw [HMT.out] at c0
          have c1 := HG2.out.cell (HC.out j (by omega)) (by simp)
          rw [HM.out j hjk] at c1
          by_cases hjy : j < y
          · have hb := HYJ.out j hjy
            obtain ⟨mj, hmj⟩ : ∃ y, m j = y := ⟨_, rfl⟩
            rw [hmj] at c1 hb
            have BQ := Lib.hid (fun u q => both_quiet mk mj false u q hb)
            clear hb hmj
            go_wp2_with fail
            go_quiet ((go_at_call 25; exact Calls.quiet_of_same (BQ.out _ _)))
            go_wp2
            go_roundg (5 - (j + 1))
            case measure => omega
            case rel => exact ⟨j + 1, by omega, rfl, by go_num, gb_trans HG2.out (gb_drewN _ _ _)⟩
          · obtain rfl : j = y := by omega
            have hb := HYB.out
            obtain ⟨mj, hmj⟩ : ∃ y, m j = y := ⟨_, rfl⟩
            rw [hmj] at c1 hb
            have BQ := Lib.hid (fun u q => both_quiet mk mj true u q hb)
            clear hb hmj
            go_wp2_with fail
            go_quiet ((go_at_call 25; exact Calls.quiet_of_same (BQ.out _ _)))
            go_wp2
            go_ret2
            exact ⟨rfl, gb_trans HG2.out (gb_drewN _ _ _)⟩

end Go.Proofs.YtljbhahdaepecaaDoor.Ma
