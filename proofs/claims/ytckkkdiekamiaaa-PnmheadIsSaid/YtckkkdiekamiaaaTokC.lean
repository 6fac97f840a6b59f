/- The laws of layer 11: fresh, same, the chapter's example. -/
import Derived.Test.YtckkkdiekamiaaaTokB
import Derived.Test.YtckkkdiekamiaaaSrcA
namespace Go.Proofs.Ytckkkdiekamiaaa.Tk
open Go.ChangeShapes Go.WideShapes Go.ChangeAt Go.RowKit
open Go.Proofs.Ytckkkdiekamiaaa.Le Go.Proofs.Ytckkkdiekamiaaa.Sr
set_option linter.unusedVariables false

theorem fresh_calls (s : ByteArray) (W : World) (hs : s.size ≤ 9223372036854775807) :
    Calls Try.prog 9 #[.string s] W fun e w' =>
      ∃ c l, e = .returned (.pointer (some ⟨c, 0, none⟩)) ∧ Rd c l s 0 (LW 100000 0) w' ∧ W.grownBy w' none ∧ W.heap.size ≤ l ∧ W.heap.size ≤ c := by
  go_enter Try.func9, Try.ntmps9
  go_wp2_with fail
  refine (wnew_calls 100000 (by decide) _).mono ?_
  rintro e w1 ⟨l, rfl, L1, g1, hl⟩
  have HL1 := Lib.hid L1
  have G1 := Lib.hid g1
  have hlw := L1.lt
  have hw := g1.size
  clear L1 g1
  go_wp2_with fail
  refine (snew_calls l s _ (by omega)).mono ?_
  rintro e w2 ⟨c, rfl, S2, g2, hc⟩
  have R : Rd c l s 0 (LW 100000 0) w2 := ⟨S2 hlw, HL1.out.grown g2 (by simp), LW_ok (by decide) (by decide) (by decide)⟩
  have HR := Lib.hid R
  have G2 := Lib.hid (gb_trans G1.out g2)
  clear R S2 g2 HL1 G1
  go_wp2
  go_ret
  exact ⟨c, l, rfl, HR.out, G2.out, hl, by omega⟩

/-- A fault, as the document says. -/
theorem same_bad (c : Nat) (kd pl : Int) (W : World) (hk : kd ≠ 0) :
    Calls Try.prog 13 #[.int .i64 0, .int .i64 0, .agg #[.int .i64 kd, .int .i64 3, .int .i64 pl], .pointer (some ⟨c, 0, none⟩), .agg #[.int .i64 0, .int .i64 0, .int .i64 0, .int .i64 kd, .int .i64 pl]] W
      fun e w' => e = .returned (.bool true) ∧ W.grownBy w' none := by
  have d0 : (kd == 0) = false := by rw [beq_eq_false_iff_ne]; exact hk
  have d0' : (kd != 0) = true := by rw [bne_iff_ne]; exact hk
  clear hk
  go_enter Try.func13, Try.ntmps13
  go_wp2
  go_ret
  exact ⟨rfl, gb_trans (World.grownBy_alloc _ _ _) (World.grownBy_alloc _ _ _)⟩

/-- A number, as the document says. -/
theorem same_yes (c l : Nat) (s : ByteArray) (q : Nat) (x : St) (v f : Nat) (W : World) (h : Rd c l s q x W) :
    Calls Try.prog 13 #[.int .i64 v, .int .i64 f, .agg #[.int .i64 0, .int .i64 0, .int .i64 0], .pointer (some ⟨c, 0, none⟩), .agg #[.int .i64 v, .int .i64 f, .int .i64 q, .int .i64 0, .int .i64 0]] W
      fun e w' => e = .returned (.bool true) ∧ W.grownBy w' none := by
  have KQ := fun u (g : W.grownBy u none) k => (at_rd c l s q x (u.drewN k) (h.grown (gb_trans g (gb_drewN _ _ _)))).mono (fun _ _ ⟨a, b⟩ => And.intro a b.symm)
  have KQ' := Lib.hid (KQ _ (gb_trans (World.grownBy_alloc W (.cells #[.int .i64 0, .int .i64 0, .int .i64 0] 26) none) (World.grownBy_alloc _ (.cells #[.int .i64 v, .int .i64 f, .int .i64 q, .int .i64 0, .int .i64 0] 30) none)))
  clear h KQ
  go_enter Try.func13, Try.ntmps13
  go_wp2_with fail
  go_quiet ((go_at_call 18; exact Calls.quiet_of_same (KQ'.out _)))
  go_wp2
  go_ret
  exact ⟨rfl, gb_trans (gb_trans (World.grownBy_alloc _ _ _) (World.grownBy_alloc _ _ _)) (gb_drewN _ _ _)⟩

/-- The chapter's example. -/
def exS : ByteArray := ⟨#[32, 35, 120, 10, 49, 50, 32]⟩
theorem exV : gotV exS 0 = ⟨12, 4, 6, 0, 0⟩ := by
  have e3 : remEnd exS 3 = 3 := remEnd_stop (by decide)
  have e2 : remEnd exS 2 = 3 := (remEnd_on (by decide) (by decide) (by decide)).trans e3
  have e1 : remEnd exS 1 = 3 := (remEnd_on (by decide) (by decide) (by decide)).trans e2
  have n1 : remNext exS 1 = 4 := by
    unfold remNext
    rw [e1, if_pos (by decide)]
  have o4 : overV exS 4 = 4 := overV_stop (by decide) (by decide) (by decide)
  have o1 : overV exS 1 = 4 := by rw [overV_rem (by decide) (by decide), n1, o4]
  have o0 : overV exS 0 = 4 := (overV_blank (by decide) (by decide)).trans o1
  have v6 : Tk.numV exS 6 12 = (12, 6) := numV_stop (by decide)
  have v5 : Tk.numV exS 5 1 = (12, 6) := (numV_on (by decide) (by decide) (by decide)).trans v6
  have v4 : Tk.numV exS 4 0 = (12, 6) := (numV_on (by decide) (by decide) (by decide)).trans v5
  exact gotV_yes' o0 (by decide) v4 (by decide)

set_option maxRecDepth 100000 in
theorem awake_calls (W : World) : Calls Try.prog 10 #[] W fun e w' => e = .returned (.bool true) ∧ W.grownBy w' none := by
  have KB := fun u => blank_calls 32 u
  have KC := fun u => blank_calls 49 u
  simp only [show blankB 32 = true from by decide, show ((32 : Nat) : Int) = 32 from rfl] at KB
  simp only [show blankB 49 = false from by decide, show ((49 : Nat) : Int) = 49 from rfl] at KC
  have KB := Lib.hid KB
  have KC := Lib.hid KC
  have HS := Lib.hid (show exS = ⟨#[32, 35, 120, 10, 49, 50, 32]⟩ from rfl)
  go_enter Try.func10, Try.ntmps10
  go_wp2_with fail
  rw [← HS.out]
  refine (fresh_calls exS _ (by decide)).mono ?_
  rintro e w1 ⟨c, l, rfl, R1, g1, hl, hc⟩
  have KN := number_calls c l exS 0 (LW 100000 0) w1 R1 rfl
  have hlw := R1.llt
  have hcw := R1.clt
  have G1 := Lib.hid g1
  rw [exV] at KN
  have KN := Lib.hid KN
  clear R1 g1
  go_wp2_with fail
  refine KN.out.mono ?_
  rintro e w2 ⟨q, _, _, t2, ⟨rfl, _, _⟩ | ⟨hno, _, _⟩⟩
  · have G2 := Lib.hid (Tn.own G1.out t2 (by intro x hx; simp at hx; omega))
    clear t2 G1 KN
    simp only [gotT, fmK]
    go_wp2_with fail
    refine (KB.out _).mono ?_
    rintro e w' ⟨rfl, rfl⟩
    go_wp2_with fail
    refine (KC.out _).mono ?_
    rintro e w' ⟨rfl, rfl⟩
    go_wp2
    go_ret
    exact ⟨rfl, gb_trans G2.out (World.grownBy_alloc _ _ _)⟩
  · have := numN_le exS 0 (Nat.zero_le _)
    have hz : exS.size = 7 := rfl
    have e1 : (LW 100000 0).s = 100000 := rfl
    have e2 : (LW 100000 0).st = 0 := rfl
    rw [e1, e2] at hno
    omega

end Go.Proofs.Ytckkkdiekamiaaa.Tk
