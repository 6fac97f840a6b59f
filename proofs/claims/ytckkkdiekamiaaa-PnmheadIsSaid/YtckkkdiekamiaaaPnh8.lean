/- The laws of layer 12: the chapter's example. -/
import Derived.Test.YtckkkdiekamiaaaPnh7
namespace Go.Proofs.Ytckkkdiekamiaaa.Ph
open Go.ChangeShapes Go.WideShapes Go.ChangeAt Go.RowKit
open Go.Proofs.Ytckkkdiekamiaaa.Le Go.Proofs.Ytckkkdiekamiaaa.Sr Go.Proofs.Ytckkkdiekamiaaa.Tk
set_option linter.unusedVariables false

def exP : ByteArray := ⟨#[80, 53, 32, 50, 32, 51, 32, 50, 53, 53, 10]⟩
theorem exG2 : gotV exP 2 = ⟨2, 3, 4, 0, 0⟩ := by
  have o : overV exP 2 = 3 := (overV_blank (by decide) (by decide)).trans (overV_stop (by decide) (by decide) (by decide))
  have v4 : Tk.numV exP 4 2 = (2, 4) := numV_stop (by decide)
  have v3 : Tk.numV exP 3 0 = (2, 4) := (numV_on (by decide) (by decide) (by decide)).trans v4
  exact gotV_yes' o (by decide) v3 (by decide)
theorem exG4 : gotV exP 4 = ⟨3, 5, 6, 0, 0⟩ := by
  have o : overV exP 4 = 5 := (overV_blank (by decide) (by decide)).trans (overV_stop (by decide) (by decide) (by decide))
  have v4 : Tk.numV exP 6 3 = (3, 6) := numV_stop (by decide)
  have v3 : Tk.numV exP 5 0 = (3, 6) := (numV_on (by decide) (by decide) (by decide)).trans v4
  exact gotV_yes' o (by decide) v3 (by decide)
theorem exG6 : gotV exP 6 = ⟨255, 7, 10, 0, 0⟩ := by
  have o : overV exP 6 = 7 := (overV_blank (by decide) (by decide)).trans (overV_stop (by decide) (by decide) (by decide))
  have v10 : Tk.numV exP 10 255 = (255, 10) := numV_stop (by decide)
  have v9 : Tk.numV exP 9 25 = (255, 10) := (numV_on (by decide) (by decide) (by decide)).trans v10
  have v8 : Tk.numV exP 8 2 = (255, 10) := (numV_on (by decide) (by decide) (by decide)).trans v9
  have v7 : Tk.numV exP 7 0 = (255, 10) := (numV_on (by decide) (by decide) (by decide)).trans v8
  exact gotV_yes' o (by decide) v7 (by decide)
theorem exR : readV exP = ⟨5, 2, 3, 255, 11, 0, 0⟩ := by
  have h := readV_4 (s := exP) (k := 5) (by decide) (by decide) (by decide) (by decide)
  have n : ∃ N, nums exP 5 3 nr0 = ⟨0, 0, 10, 2, 3, 255, N⟩ := by
    rw [nums_on (r := 2) (z := nr0) (by decide) exG2 (by decide) (by decide), nums_on (r := 1) (by decide) exG4 (by decide) (by decide), nums_on (r := 0) (by decide) exG6 (by decide) (by decide)]
    exact ⟨_, rfl⟩
  obtain ⟨N, hN⟩ := n
  rw [h, hN]
  exact endV_yes rfl (by decide) (show 10 < exP.size by decide) (show blankB (bt exP 10) = true by decide)

set_option maxRecDepth 100000 in
set_option maxHeartbeats 2000000 in
theorem awake_calls (W : World) : Calls Try.prog 27 #[] W fun e w' => e = .returned (.bool true) ∧ W.grownBy w' none := by
  have HS := Lib.hid (show exP = ⟨#[80, 53, 32, 50, 32, 51, 32, 50, 53, 53, 10]⟩ from rfl)
  have KZ := fun u => size_yes 5 2 3 255 11 u (by decide) (by decide) (by decide) (by decide)
  simp only [show ((5 : Nat) : Int) = 5 from rfl, show ((2 : Nat) : Int) = 2 from rfl, show ((3 : Nat) : Int) = 3 from rfl, show ((255 : Nat) : Int) = 255 from rfl] at KZ
  have KZ := Lib.hid KZ
  go_enter Try.func27, Try.ntmps27
  go_wp2_with fail
  refine (wnew_calls 100 (by decide) _).mono ?_
  rintro e w1 ⟨l, rfl, L1, g1, hl⟩
  have HL1 := Lib.hid L1
  have G1 := Lib.hid g1
  have hlw := L1.lt
  have hw := g1.size
  clear L1 g1
  go_wp2_with fail
  rw [← HS.out]
  refine (snew_calls l exP _ (by decide)).mono ?_
  rintro e w2 ⟨c, rfl, S2, g2, hc⟩
  have R : Rd c l exP 0 (LW 100 0) w2 := ⟨S2 hlw, HL1.out.grown g2 (by simp), LW_ok (by decide) (by decide) (by decide)⟩
  have KN := read_calls c l exP (LW 100 0) w2 R rfl
  have hcw := R.clt
  have hlw2 := R.llt
  have G2 := Lib.hid (gb_trans G1.out g2)
  have KN := Lib.hid KN
  clear R S2 g2 HL1 G1
  go_wp2_with fail
  refine KN.out.mono ?_
  rintro e w3 ⟨q, _, t3, ⟨rfl, _, _⟩ | ⟨hno, _, _⟩⟩
  · have G3 := Lib.hid (Tn.own G2.out t3 (by intro x hx; simp at hx; omega))
    clear t3 G2 KN
    rw [exR]
    simp only [rdT, show ((fmK 0 : Nat) : Int) = 0 from rfl, show ((5 : Nat) : Int) = 5 from rfl, show ((2 : Nat) : Int) = 2 from rfl, show ((3 : Nat) : Int) = 3 from rfl, show ((255 : Nat) : Int) = 255 from rfl, show ((11 : Nat) : Int) = 11 from rfl, show ((0 : Nat) : Int) = 0 from rfl]
    go_wp2_with fail
    refine (KZ.out _).mono ?_
    rintro e w4 ⟨rfl, g4⟩
    have A4 := old2a g4 (by simp)
    have B4 := old2b g4 (by simp)
    have G4 := Lib.hid (gb_trans (gb_trans (gb_trans G3.out (World.grownBy_alloc _ _ none)) (World.grownBy_alloc _ _ none)) g4)
    have a0 := blk_cell A4 0
    have a1 := blk_cell A4 1
    have a2 := blk_cell A4 2
    have a3 := blk_cell A4 3
    have a4 := blk_cell A4 4
    have b0 := blk_cell B4 0
    have b1 := blk_cell B4 1
    have b2 := blk_cell B4 2
    simp at a0 a1 a2 a3 a4 b0 b1 b2
    clear g4 A4 B4
    go_wp2
    go_ret
    exact ⟨rfl, G4.out⟩
  · have := readN_le exP
    have hz : exP.size = 11 := rfl
    rw [show (LW 100 0).s = 100 from rfl, show (LW 100 0).st = 0 from rfl] at hno
    omega

end Go.Proofs.Ytckkkdiekamiaaa.Ph
