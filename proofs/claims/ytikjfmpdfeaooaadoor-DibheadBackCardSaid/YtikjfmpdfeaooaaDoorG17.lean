/- Texts of one kind, one behind the other: Dh3. -/
import Derived.BigQuiet
import Derived.Deep.Cut
import Derived.Deep.QuietTactic
import Derived.Test.YtikjfmpdfeaooaaDoorG06
/- Layer 20: what is wrong with a head's numbers, walked (written by wip/gen/dh3.py). -/
namespace Go.Proofs.YtikjfmpdfeaooaaDoor.Dh
open Go.ChangeShapes Go.WideShapes Go.ChangeAt Go.RowKit
open Go.Proofs.YtikjfmpdfeaooaaDoor.Le Go.Proofs.YtikjfmpdfeaooaaDoor.Sr
set_option linter.unusedVariables false

theorem idx_chk0 (b0 b1 b2 b3 b4 b5 b6 b7 b8 b9 : Bool) (h p d : Int) (w : World) : (Instr.index 109 (.agg #[.int .i64 2, .int .i64 4, .bool b0, .int .i64 3, .int .i64 4, .bool b1, .int .i64 2, .int .i64 h, .bool b2, .int .i64 3, .int .i64 h, .bool b3, .int .i64 2, .int .i64 p, .bool b4, .int .i64 3, .int .i64 d, .bool b5, .int .i64 3, .int .i64 16, .bool b6, .int .i64 2, .int .i64 16, .bool b7, .int .i64 2, .int .i64 h, .bool b8, .int .i64 2, .int .i64 32, .bool b9]) (.int .i64 0)).run Tryd.prog w = .ok (.agg #[.int .i64 2, .int .i64 4, .bool b0]) w := by kernel_rfl
theorem idx_chk1 (b0 b1 b2 b3 b4 b5 b6 b7 b8 b9 : Bool) (h p d : Int) (w : World) : (Instr.index 109 (.agg #[.int .i64 2, .int .i64 4, .bool b0, .int .i64 3, .int .i64 4, .bool b1, .int .i64 2, .int .i64 h, .bool b2, .int .i64 3, .int .i64 h, .bool b3, .int .i64 2, .int .i64 p, .bool b4, .int .i64 3, .int .i64 d, .bool b5, .int .i64 3, .int .i64 16, .bool b6, .int .i64 2, .int .i64 16, .bool b7, .int .i64 2, .int .i64 h, .bool b8, .int .i64 2, .int .i64 32, .bool b9]) (.int .i64 1)).run Tryd.prog w = .ok (.agg #[.int .i64 3, .int .i64 4, .bool b1]) w := by kernel_rfl
theorem idx_chk2 (b0 b1 b2 b3 b4 b5 b6 b7 b8 b9 : Bool) (h p d : Int) (w : World) : (Instr.index 109 (.agg #[.int .i64 2, .int .i64 4, .bool b0, .int .i64 3, .int .i64 4, .bool b1, .int .i64 2, .int .i64 h, .bool b2, .int .i64 3, .int .i64 h, .bool b3, .int .i64 2, .int .i64 p, .bool b4, .int .i64 3, .int .i64 d, .bool b5, .int .i64 3, .int .i64 16, .bool b6, .int .i64 2, .int .i64 16, .bool b7, .int .i64 2, .int .i64 h, .bool b8, .int .i64 2, .int .i64 32, .bool b9]) (.int .i64 2)).run Tryd.prog w = .ok (.agg #[.int .i64 2, .int .i64 h, .bool b2]) w := by kernel_rfl
theorem idx_chk3 (b0 b1 b2 b3 b4 b5 b6 b7 b8 b9 : Bool) (h p d : Int) (w : World) : (Instr.index 109 (.agg #[.int .i64 2, .int .i64 4, .bool b0, .int .i64 3, .int .i64 4, .bool b1, .int .i64 2, .int .i64 h, .bool b2, .int .i64 3, .int .i64 h, .bool b3, .int .i64 2, .int .i64 p, .bool b4, .int .i64 3, .int .i64 d, .bool b5, .int .i64 3, .int .i64 16, .bool b6, .int .i64 2, .int .i64 16, .bool b7, .int .i64 2, .int .i64 h, .bool b8, .int .i64 2, .int .i64 32, .bool b9]) (.int .i64 3)).run Tryd.prog w = .ok (.agg #[.int .i64 3, .int .i64 h, .bool b3]) w := by kernel_rfl
theorem idx_chk4 (b0 b1 b2 b3 b4 b5 b6 b7 b8 b9 : Bool) (h p d : Int) (w : World) : (Instr.index 109 (.agg #[.int .i64 2, .int .i64 4, .bool b0, .int .i64 3, .int .i64 4, .bool b1, .int .i64 2, .int .i64 h, .bool b2, .int .i64 3, .int .i64 h, .bool b3, .int .i64 2, .int .i64 p, .bool b4, .int .i64 3, .int .i64 d, .bool b5, .int .i64 3, .int .i64 16, .bool b6, .int .i64 2, .int .i64 16, .bool b7, .int .i64 2, .int .i64 h, .bool b8, .int .i64 2, .int .i64 32, .bool b9]) (.int .i64 4)).run Tryd.prog w = .ok (.agg #[.int .i64 2, .int .i64 p, .bool b4]) w := by kernel_rfl
theorem idx_chk5 (b0 b1 b2 b3 b4 b5 b6 b7 b8 b9 : Bool) (h p d : Int) (w : World) : (Instr.index 109 (.agg #[.int .i64 2, .int .i64 4, .bool b0, .int .i64 3, .int .i64 4, .bool b1, .int .i64 2, .int .i64 h, .bool b2, .int .i64 3, .int .i64 h, .bool b3, .int .i64 2, .int .i64 p, .bool b4, .int .i64 3, .int .i64 d, .bool b5, .int .i64 3, .int .i64 16, .bool b6, .int .i64 2, .int .i64 16, .bool b7, .int .i64 2, .int .i64 h, .bool b8, .int .i64 2, .int .i64 32, .bool b9]) (.int .i64 5)).run Tryd.prog w = .ok (.agg #[.int .i64 3, .int .i64 d, .bool b5]) w := by kernel_rfl
theorem idx_chk6 (b0 b1 b2 b3 b4 b5 b6 b7 b8 b9 : Bool) (h p d : Int) (w : World) : (Instr.index 109 (.agg #[.int .i64 2, .int .i64 4, .bool b0, .int .i64 3, .int .i64 4, .bool b1, .int .i64 2, .int .i64 h, .bool b2, .int .i64 3, .int .i64 h, .bool b3, .int .i64 2, .int .i64 p, .bool b4, .int .i64 3, .int .i64 d, .bool b5, .int .i64 3, .int .i64 16, .bool b6, .int .i64 2, .int .i64 16, .bool b7, .int .i64 2, .int .i64 h, .bool b8, .int .i64 2, .int .i64 32, .bool b9]) (.int .i64 6)).run Tryd.prog w = .ok (.agg #[.int .i64 3, .int .i64 16, .bool b6]) w := by kernel_rfl
theorem idx_chk7 (b0 b1 b2 b3 b4 b5 b6 b7 b8 b9 : Bool) (h p d : Int) (w : World) : (Instr.index 109 (.agg #[.int .i64 2, .int .i64 4, .bool b0, .int .i64 3, .int .i64 4, .bool b1, .int .i64 2, .int .i64 h, .bool b2, .int .i64 3, .int .i64 h, .bool b3, .int .i64 2, .int .i64 p, .bool b4, .int .i64 3, .int .i64 d, .bool b5, .int .i64 3, .int .i64 16, .bool b6, .int .i64 2, .int .i64 16, .bool b7, .int .i64 2, .int .i64 h, .bool b8, .int .i64 2, .int .i64 32, .bool b9]) (.int .i64 7)).run Tryd.prog w = .ok (.agg #[.int .i64 2, .int .i64 16, .bool b7]) w := by kernel_rfl
theorem idx_chk8 (b0 b1 b2 b3 b4 b5 b6 b7 b8 b9 : Bool) (h p d : Int) (w : World) : (Instr.index 109 (.agg #[.int .i64 2, .int .i64 4, .bool b0, .int .i64 3, .int .i64 4, .bool b1, .int .i64 2, .int .i64 h, .bool b2, .int .i64 3, .int .i64 h, .bool b3, .int .i64 2, .int .i64 p, .bool b4, .int .i64 3, .int .i64 d, .bool b5, .int .i64 3, .int .i64 16, .bool b6, .int .i64 2, .int .i64 16, .bool b7, .int .i64 2, .int .i64 h, .bool b8, .int .i64 2, .int .i64 32, .bool b9]) (.int .i64 8)).run Tryd.prog w = .ok (.agg #[.int .i64 2, .int .i64 h, .bool b8]) w := by kernel_rfl
theorem idx_chk9 (b0 b1 b2 b3 b4 b5 b6 b7 b8 b9 : Bool) (h p d : Int) (w : World) : (Instr.index 109 (.agg #[.int .i64 2, .int .i64 4, .bool b0, .int .i64 3, .int .i64 4, .bool b1, .int .i64 2, .int .i64 h, .bool b2, .int .i64 3, .int .i64 h, .bool b3, .int .i64 2, .int .i64 p, .bool b4, .int .i64 3, .int .i64 d, .bool b5, .int .i64 3, .int .i64 16, .bool b6, .int .i64 2, .int .i64 16, .bool b7, .int .i64 2, .int .i64 h, .bool b8, .int .i64 2, .int .i64 32, .bool b9]) (.int .i64 9)).run Tryd.prog w = .ok (.agg #[.int .i64 2, .int .i64 32, .bool b9]) w := by kernel_rfl
set_option maxRecDepth 100000 in
set_option maxHeartbeats 8000000 in
theorem wrong_n (S W0 H P D M C : Int) (K : Nat) (W : World) (h1 : -2147483648 ≤ H) (h2 : H ≤ 2147483648) (hpk : pkH M = false) (F : FstB (ckD S W0 H P D M C) K) :
    Calls Tryd.prog 23 #[.agg #[.int .i64 S, .int .i64 W0, .int .i64 H, .int .i64 P, .int .i64 D, .int .i64 M, .int .i64 C]] W fun e w' => e = .returned (.tuple #[.int .i64 (kdD K), .int .i64 (plD S K)]) ∧ W.grownBy w' none := by
  have KP := fun u => places_calls S u
  have KF := Lib.hid (fun u => far_calls H (by omega) (by omega) u)
  have KD := Lib.hid (fun u => isdepth_calls D S u)
  have KT := Lib.hid (fun u => fits_calls M D u)
  have KK := fun u => ispacked_calls M u
  rw [hpk] at KK
  have KK := Lib.hid KK
  have KM := Lib.hid (fun u => mostcolors_calls D u)
  obtain ⟨b0, q0⟩ : ∃ x, ckD S W0 H P D M C 0 = x := ⟨_, rfl⟩
  have e0 : decide (W0 < 1) = b0 := by rw [← q0]; rfl
  have q0 := Lib.hid q0
  obtain ⟨b1, q1⟩ : ∃ x, ckD S W0 H P D M C 1 = x := ⟨_, rfl⟩
  have e1 : decide (16384 < W0) = b1 := by rw [← q1]; rfl
  have q1 := Lib.hid q1
  obtain ⟨b2, q2⟩ : ∃ x, ckD S W0 H P D M C 2 = x := ⟨_, rfl⟩
  have e2 : (H == 0) = b2 := by rw [← q2]; rfl
  have q2 := Lib.hid q2
  obtain ⟨b3, q3⟩ : ∃ x, ckD S W0 H P D M C 3 = x := ⟨_, rfl⟩
  have e3 : decide (16384 < fa H) = b3 := by rw [← q3]; rfl
  have q3 := Lib.hid q3
  obtain ⟨b4, q4⟩ : ∃ x, ckD S W0 H P D M C 4 = x := ⟨_, rfl⟩
  have e4 : (P != 1) = b4 := by rw [← q4]; rfl
  have q4 := Lib.hid q4
  obtain ⟨b5, q5⟩ : ∃ x, ckD S W0 H P D M C 5 = x := ⟨_, rfl⟩
  have e5 : (!(dpH D S)) = b5 := by rw [← q5]; rfl
  have q5 := Lib.hid q5
  obtain ⟨b6, q6⟩ : ∃ x, ckD S W0 H P D M C 6 = x := ⟨_, rfl⟩
  have e6 : decide (3 < M) = b6 := by rw [← q6]; rfl
  have q6 := Lib.hid q6
  obtain ⟨b7, q7⟩ : ∃ x, ckD S W0 H P D M C 7 = x := ⟨_, rfl⟩
  have e7 : (!(ftH M D)) = b7 := by rw [← q7]; rfl
  have q7 := Lib.hid q7
  obtain ⟨b8, q8⟩ : ∃ x, ckD S W0 H P D M C 8 = x := ⟨_, rfl⟩
  obtain rfl : false = b8 := by rw [← q8]; show false = (pkH M && decide (H < 0)); rw [hpk, Bool.false_and]
  have q8 := Lib.hid q8
  obtain ⟨b9, q9⟩ : ∃ x, ckD S W0 H P D M C 9 = x := ⟨_, rfl⟩
  have e9 : decide (mstC D < C) = b9 := by rw [← q9]; rfl
  have q9 := Lib.hid q9
  have HF := Lib.hid F
  have hK := F.le
  clear F h1 h2 hpk
  obtain ⟨h, p, d, hpc, qh, qp, qd⟩ : ∃ h p d : Int, pcA S = #[.int .i64 h, .int .i64 p, .int .i64 d] ∧ h = (if S = 12 then 6 else 8) ∧ p = (if S = 12 then 8 else 12) ∧ d = (if S = 12 then 10 else 14) := by
    unfold pcA
    split
    · exact ⟨_, _, _, rfl, rfl, rfl, rfl⟩
    · exact ⟨_, _, _, rfl, rfl, rfl, rfl⟩
  rw [hpc] at KP
  have KP := Lib.hid KP
  obtain ⟨kk, ekk⟩ : ∃ x, kdD K = x := ⟨_, rfl⟩
  obtain ⟨pp, epp⟩ : ∃ x, plD S K = x := ⟨_, rfl⟩
  rw [ekk, epp]
  have EK := Lib.hid ekk
  have EP := Lib.hid epp
  have QH := Lib.hid (And.intro qh (And.intro qp qd))
  clear ekk epp qh qp qd hpc
  go_enter Tryd.func23, Tryd.ntmps23
  go_upto_region 1 with fail
  have B0 := blk_at (w := W) (o := .cells #[.int .i64 S, .int .i64 W0, .int .i64 H, .int .i64 P, .int .i64 D, .int .i64 M, .int .i64 C] 62)
  have G0 := World.grownBy_alloc W (.cells #[.int .i64 S, .int .i64 W0, .int .i64 H, .int .i64 P, .int .i64 D, .int .i64 M, .int .i64 C] 62) none
  generalize W.alloc (.cells #[.int .i64 S, .int .i64 W0, .int .i64 H, .int .i64 P, .int .i64 D, .int .i64 M, .int .i64 C] 62) = w0 at B0 G0 ⊢
  have z0 := blk_cell B0 0
  simp only [List.getElem?_toArray, List.getElem?_cons_zero] at z0
  have HB0 := Lib.hid B0
  have HG0 := Lib.hid G0
  have hlt0 := blk_lt B0
  clear B0 G0
  go_wp2_with fail
  refine (KP.out _).mono ?_
  rintro e w1 ⟨rfl, g1⟩
  have B1 : w1.heap[W.heap.size]? = some (.cells #[.int .i64 S, .int .i64 W0, .int .i64 H, .int .i64 P, .int .i64 D, .int .i64 M, .int .i64 C] 62 (0, 0)) := old0 g1 HB0.out hlt0 (by simp)
  have G1 := Lib.hid (gb_trans (gb_trans HG0.out g1) (World.grownBy_alloc w1 (.cells #[.int .i64 h, .int .i64 p, .int .i64 d] 104) none))
  have B2 : (w1.alloc (.cells #[.int .i64 h, .int .i64 p, .int .i64 d] 104)).heap[W.heap.size]? = some (.cells #[.int .i64 S, .int .i64 W0, .int .i64 H, .int .i64 P, .int .i64 D, .int .i64 M, .int .i64 C] 62 (0, 0)) := blk_al B1 _
  have P2 : (w1.alloc (.cells #[.int .i64 h, .int .i64 p, .int .i64 d] 104)).heap[w1.heap.size]? = some (.cells #[.int .i64 h, .int .i64 p, .int .i64 d] 104 (0, 0)) := blk_at
  have c0 := blk_cell B1 0
  have a0 := blk_cell B2 0
  have c1 := blk_cell B1 1
  have a1 := blk_cell B2 1
  have c2 := blk_cell B1 2
  have a2 := blk_cell B2 2
  have c3 := blk_cell B1 3
  have a3 := blk_cell B2 3
  have c4 := blk_cell B1 4
  have a4 := blk_cell B2 4
  have c5 := blk_cell B1 5
  have a5 := blk_cell B2 5
  have c6 := blk_cell B1 6
  have a6 := blk_cell B2 6
  have p0 := blk_cell P2 0
  have p1 := blk_cell P2 1
  have p2 := blk_cell P2 2
  simp only [List.getElem?_toArray, List.getElem?_cons_succ, List.getElem?_cons_zero] at c0 c1 c2 c3 c4 c5 c6 a0 a1 a2 a3 a4 a5 a6 p0 p1 p2
  have hlt := blk_lt B1
  clear B1 B2 P2 g1 z0 hlt0
  go_wp2_with fail
  go_quiet ((first
    | (go_at_call 26; exact Calls.quiet_of_same ((KF.out _).mono (fun _ _ h => ⟨h.1, h.2.symm⟩)))
    | (go_at_call 48; exact Calls.quiet_of_same ((KD.out _).mono (fun _ _ h => ⟨h.1, h.2.symm⟩)))
    | (go_at_call 49; exact Calls.quiet_of_same ((KT.out _).mono (fun _ _ h => ⟨h.1, h.2.symm⟩)))
    | (go_at_call 50; exact Calls.quiet_of_same ((KK.out _).mono (fun _ _ h => ⟨h.1, h.2.symm⟩)))
    | (go_at_call 51; exact Calls.quiet_of_same ((KM.out _).mono (fun _ _ h => ⟨h.1, h.2.symm⟩)))))
  have G2 := Lib.hid (gb_trans G1.out (gb_drewN (w1.alloc (.cells #[.int .i64 h, .int .i64 p, .int .i64 d] 104)) nq _))
  generalize (w1.alloc (.cells #[.int .i64 h, .int .i64 p, .int .i64 d] 104)).drewN nq = w2 at G2 ⊢
  clear c0 a0 c1 a1 c2 a2 c3 a3 c4 a4 c5 a5 c6 a6 p0 p1 p2 hlt e0 e1 e2 e3 e4 e5 e6 e7 e9 KF KD KT KK KM KP G1
  go_wp2_with fail
  go_loopg [76] 11 (fun q iv wr => ∃ (k : Nat), k ≤ K ∧ q = 11 - k ∧ iv = .int .i64 k ∧ W.grownBy wr none)
  case atStart => exact ⟨0, by omega, rfl, rfl, G2.out⟩
  case round =>
    obtain ⟨k, hk, rfl, rfl, J⟩ := hrel
    have HJ := Lib.hid J
    clear J G2
    obtain rfl | rfl | rfl | rfl | rfl | rfl | rfl | rfl | rfl | rfl | rfl : k = 0 ∨ k = 1 ∨ k = 2 ∨ k = 3 ∨ k = 4 ∨ k = 5 ∨ k = 6 ∨ k = 7 ∨ k = 8 ∨ k = 9 ∨ k = 10 := by omega
    · cases b0 with
      | true =>
        have hidx := idx_chk0 true b1 b2 b3 b4 b5 b6 b7 false b9 h p d wr
        have hKk : K = 0 := Nat.le_antisymm (Nat.le_of_not_lt (fun h => absurd ((HF.out.no 0 h).symm.trans q0.out) (by decide))) hk
        have E1 := Lib.hid (show kk = 2 from by rw [← EK.out, hKk]; rfl)
        have E2 := Lib.hid (show pp = 4 from by rw [← EP.out, hKk]; exact rfl)
        clear hKk hk
        go_wp2_with fail
        go_quiet (fail)
        go_wp2
        go_ret2
        exact ⟨by have h1 := E1.out; have h2 := E2.out; subst h1; subst h2; rfl, gb_trans (gb_trans HJ.out (World.grownBy_alloc _ _ none)) (gb_drewN _ _ _)⟩
      | false =>
        have hidx := idx_chk0 false b1 b2 b3 b4 b5 b6 b7 false b9 h p d wr
        have hKk : K ≠ 0 := fun h => absurd ((by rw [← h]; exact (HF.out.yes (by omega)) : ckD S W0 H P D M C 0 = true).symm.trans q0.out) (by decide)
        go_wp2
        go_roundg (11 - 1)
        case measure => omega
        case rel => exact ⟨1, by omega, rfl, rfl, gb_trans HJ.out (World.grownBy_alloc _ _ none)⟩
    · cases b1 with
      | true =>
        have hidx := idx_chk1 b0 true b2 b3 b4 b5 b6 b7 false b9 h p d wr
        have hKk : K = 1 := Nat.le_antisymm (Nat.le_of_not_lt (fun h => absurd ((HF.out.no 1 h).symm.trans q1.out) (by decide))) hk
        have E1 := Lib.hid (show kk = 3 from by rw [← EK.out, hKk]; rfl)
        have E2 := Lib.hid (show pp = 4 from by rw [← EP.out, hKk]; exact rfl)
        clear hKk hk
        go_wp2_with fail
        go_quiet (fail)
        go_wp2
        go_ret2
        exact ⟨by have h1 := E1.out; have h2 := E2.out; subst h1; subst h2; rfl, gb_trans (gb_trans HJ.out (World.grownBy_alloc _ _ none)) (gb_drewN _ _ _)⟩
      | false =>
        have hidx := idx_chk1 b0 false b2 b3 b4 b5 b6 b7 false b9 h p d wr
        have hKk : K ≠ 1 := fun h => absurd ((by rw [← h]; exact (HF.out.yes (by omega)) : ckD S W0 H P D M C 1 = true).symm.trans q1.out) (by decide)
        go_wp2
        go_roundg (11 - 2)
        case measure => omega
        case rel => exact ⟨2, by omega, rfl, rfl, gb_trans HJ.out (World.grownBy_alloc _ _ none)⟩
    · cases b2 with
      | true =>
        have hidx := idx_chk2 b0 b1 true b3 b4 b5 b6 b7 false b9 h p d wr
        have hKk : K = 2 := Nat.le_antisymm (Nat.le_of_not_lt (fun h => absurd ((HF.out.no 2 h).symm.trans q2.out) (by decide))) hk
        have E1 := Lib.hid (show kk = 2 from by rw [← EK.out, hKk]; rfl)
        have E2 := Lib.hid (show pp = h from by rw [← EP.out, hKk]; exact QH.out.1.symm)
        clear hKk hk
        go_wp2_with fail
        go_quiet (fail)
        go_wp2
        go_ret2
        exact ⟨by have h1 := E1.out; have h2 := E2.out; subst h1; subst h2; rfl, gb_trans (gb_trans HJ.out (World.grownBy_alloc _ _ none)) (gb_drewN _ _ _)⟩
      | false =>
        have hidx := idx_chk2 b0 b1 false b3 b4 b5 b6 b7 false b9 h p d wr
        have hKk : K ≠ 2 := fun h => absurd ((by rw [← h]; exact (HF.out.yes (by omega)) : ckD S W0 H P D M C 2 = true).symm.trans q2.out) (by decide)
        go_wp2
        go_roundg (11 - 3)
        case measure => omega
        case rel => exact ⟨3, by omega, rfl, rfl, gb_trans HJ.out (World.grownBy_alloc _ _ none)⟩
    · cases b3 with
      | true =>
        have hidx := idx_chk3 b0 b1 b2 true b4 b5 b6 b7 false b9 h p d wr
        have hKk : K = 3 := Nat.le_antisymm (Nat.le_of_not_lt (fun h => absurd ((HF.out.no 3 h).symm.trans q3.out) (by decide))) hk
        have E1 := Lib.hid (show kk = 3 from by rw [← EK.out, hKk]; rfl)
        have E2 := Lib.hid (show pp = h from by rw [← EP.out, hKk]; exact QH.out.1.symm)
        clear hKk hk
        go_wp2_with fail
        go_quiet (fail)
        go_wp2
        go_ret2
        exact ⟨by have h1 := E1.out; have h2 := E2.out; subst h1; subst h2; rfl, gb_trans (gb_trans HJ.out (World.grownBy_alloc _ _ none)) (gb_drewN _ _ _)⟩
      | false =>
        have hidx := idx_chk3 b0 b1 b2 false b4 b5 b6 b7 false b9 h p d wr
        have hKk : K ≠ 3 := fun h => absurd ((by rw [← h]; exact (HF.out.yes (by omega)) : ckD S W0 H P D M C 3 = true).symm.trans q3.out) (by decide)
        go_wp2
        go_roundg (11 - 4)
        case measure => omega
        case rel => exact ⟨4, by omega, rfl, rfl, gb_trans HJ.out (World.grownBy_alloc _ _ none)⟩
    · cases b4 with
      | true =>
        have hidx := idx_chk4 b0 b1 b2 b3 true b5 b6 b7 false b9 h p d wr
        have hKk : K = 4 := Nat.le_antisymm (Nat.le_of_not_lt (fun h => absurd ((HF.out.no 4 h).symm.trans q4.out) (by decide))) hk
        have E1 := Lib.hid (show kk = 2 from by rw [← EK.out, hKk]; rfl)
        have E2 := Lib.hid (show pp = p from by rw [← EP.out, hKk]; exact QH.out.2.1.symm)
        clear hKk hk
        go_wp2_with fail
        go_quiet (fail)
        go_wp2
        go_ret2
        exact ⟨by have h1 := E1.out; have h2 := E2.out; subst h1; subst h2; rfl, gb_trans (gb_trans HJ.out (World.grownBy_alloc _ _ none)) (gb_drewN _ _ _)⟩
      | false =>
        have hidx := idx_chk4 b0 b1 b2 b3 false b5 b6 b7 false b9 h p d wr
        have hKk : K ≠ 4 := fun h => absurd ((by rw [← h]; exact (HF.out.yes (by omega)) : ckD S W0 H P D M C 4 = true).symm.trans q4.out) (by decide)
        go_wp2
        go_roundg (11 - 5)
        case measure => omega
        case rel => exact ⟨5, by omega, rfl, rfl, gb_trans HJ.out (World.grownBy_alloc _ _ none)⟩
    · cases b5 with
      | true =>
        have hidx := idx_chk5 b0 b1 b2 b3 b4 true b6 b7 false b9 h p d wr
        have hKk : K = 5 := Nat.le_antisymm (Nat.le_of_not_lt (fun h => absurd ((HF.out.no 5 h).symm.trans q5.out) (by decide))) hk
        have E1 := Lib.hid (show kk = 3 from by rw [← EK.out, hKk]; rfl)
        have E2 := Lib.hid (show pp = d from by rw [← EP.out, hKk]; exact QH.out.2.2.symm)
        clear hKk hk
        go_wp2_with fail
        go_quiet (fail)
        go_wp2
        go_ret2
        exact ⟨by have h1 := E1.out; have h2 := E2.out; subst h1; subst h2; rfl, gb_trans (gb_trans HJ.out (World.grownBy_alloc _ _ none)) (gb_drewN _ _ _)⟩
      | false =>
        have hidx := idx_chk5 b0 b1 b2 b3 b4 false b6 b7 false b9 h p d wr
        have hKk : K ≠ 5 := fun h => absurd ((by rw [← h]; exact (HF.out.yes (by omega)) : ckD S W0 H P D M C 5 = true).symm.trans q5.out) (by decide)
        go_wp2
        go_roundg (11 - 6)
        case measure => omega
        case rel => exact ⟨6, by omega, rfl, rfl, gb_trans HJ.out (World.grownBy_alloc _ _ none)⟩
    · cases b6 with
      | true =>
        have hidx := idx_chk6 b0 b1 b2 b3 b4 b5 true b7 false b9 h p d wr
        have hKk : K = 6 := Nat.le_antisymm (Nat.le_of_not_lt (fun h => absurd ((HF.out.no 6 h).symm.trans q6.out) (by decide))) hk
        have E1 := Lib.hid (show kk = 3 from by rw [← EK.out, hKk]; rfl)
        have E2 := Lib.hid (show pp = 16 from by rw [← EP.out, hKk]; exact rfl)
        clear hKk hk
        go_wp2_with fail
        go_quiet (fail)
        go_wp2
        go_ret2
        exact ⟨by have h1 := E1.out; have h2 := E2.out; subst h1; subst h2; rfl, gb_trans (gb_trans HJ.out (World.grownBy_alloc _ _ none)) (gb_drewN _ _ _)⟩
      | false =>
        have hidx := idx_chk6 b0 b1 b2 b3 b4 b5 false b7 false b9 h p d wr
        have hKk : K ≠ 6 := fun h => absurd ((by rw [← h]; exact (HF.out.yes (by omega)) : ckD S W0 H P D M C 6 = true).symm.trans q6.out) (by decide)
        go_wp2
        go_roundg (11 - 7)
        case measure => omega
        case rel => exact ⟨7, by omega, rfl, rfl, gb_trans HJ.out (World.grownBy_alloc _ _ none)⟩
    · cases b7 with
      | true =>
        have hidx := idx_chk7 b0 b1 b2 b3 b4 b5 b6 true false b9 h p d wr
        have hKk : K = 7 := Nat.le_antisymm (Nat.le_of_not_lt (fun h => absurd ((HF.out.no 7 h).symm.trans q7.out) (by decide))) hk
        have E1 := Lib.hid (show kk = 2 from by rw [← EK.out, hKk]; rfl)
        have E2 := Lib.hid (show pp = 16 from by rw [← EP.out, hKk]; exact rfl)
        clear hKk hk
        go_wp2_with fail
        go_quiet (fail)
        go_wp2
        go_ret2
        exact ⟨by have h1 := E1.out; have h2 := E2.out; subst h1; subst h2; rfl, gb_trans (gb_trans HJ.out (World.grownBy_alloc _ _ none)) (gb_drewN _ _ _)⟩
      | false =>
        have hidx := idx_chk7 b0 b1 b2 b3 b4 b5 b6 false false b9 h p d wr
        have hKk : K ≠ 7 := fun h => absurd ((by rw [← h]; exact (HF.out.yes (by omega)) : ckD S W0 H P D M C 7 = true).symm.trans q7.out) (by decide)
        go_wp2
        go_roundg (11 - 8)
        case measure => omega
        case rel => exact ⟨8, by omega, rfl, rfl, gb_trans HJ.out (World.grownBy_alloc _ _ none)⟩
    · skip
      have hidx := idx_chk8 b0 b1 b2 b3 b4 b5 b6 b7 false b9 h p d wr
      have hKk : K ≠ 8 := fun h => absurd ((by rw [← h]; exact (HF.out.yes (by omega)) : ckD S W0 H P D M C 8 = true).symm.trans q8.out) (by decide)
      go_wp2
      go_roundg (11 - 9)
      case measure => omega
      case rel => exact ⟨9, by omega, rfl, rfl, gb_trans HJ.out (World.grownBy_alloc _ _ none)⟩
    · cases b9 with
      | true =>
        have hidx := idx_chk9 b0 b1 b2 b3 b4 b5 b6 b7 false true h p d wr
        have hKk : K = 9 := Nat.le_antisymm (Nat.le_of_not_lt (fun h => absurd ((HF.out.no 9 h).symm.trans q9.out) (by decide))) hk
        have E1 := Lib.hid (show kk = 2 from by rw [← EK.out, hKk]; rfl)
        have E2 := Lib.hid (show pp = 32 from by rw [← EP.out, hKk]; exact rfl)
        clear hKk hk
        go_wp2_with fail
        go_quiet (fail)
        go_wp2
        go_ret2
        exact ⟨by have h1 := E1.out; have h2 := E2.out; subst h1; subst h2; rfl, gb_trans (gb_trans HJ.out (World.grownBy_alloc _ _ none)) (gb_drewN _ _ _)⟩
      | false =>
        have hidx := idx_chk9 b0 b1 b2 b3 b4 b5 b6 b7 false false h p d wr
        have hKk : K ≠ 9 := fun h => absurd ((by rw [← h]; exact (HF.out.yes (by omega)) : ckD S W0 H P D M C 9 = true).symm.trans q9.out) (by decide)
        go_wp2
        go_roundg (11 - 10)
        case measure => omega
        case rel => exact ⟨10, by omega, rfl, rfl, gb_trans HJ.out (World.grownBy_alloc _ _ none)⟩
    · obtain rfl : K = 10 := by omega
      have E1 := Lib.hid (show kk = 0 from by rw [← EK.out]; rfl)
      have E2 := Lib.hid (show pp = 0 from by rw [← EP.out]; rfl)
      go_wp2
      go_ret2
      exact ⟨by have h1 := E1.out; have h2 := E2.out; subst h1; subst h2; rfl, HJ.out⟩

set_option maxRecDepth 100000 in
set_option maxHeartbeats 8000000 in
theorem wrong_y (S W0 H P D M C : Int) (K : Nat) (W : World) (h1 : -2147483648 ≤ H) (h2 : H ≤ 2147483648) (hpk : pkH M = true) (F : FstB (ckD S W0 H P D M C) K) :
    Calls Tryd.prog 23 #[.agg #[.int .i64 S, .int .i64 W0, .int .i64 H, .int .i64 P, .int .i64 D, .int .i64 M, .int .i64 C]] W fun e w' => e = .returned (.tuple #[.int .i64 (kdD K), .int .i64 (plD S K)]) ∧ W.grownBy w' none := by
  have KP := fun u => places_calls S u
  have KF := Lib.hid (fun u => far_calls H (by omega) (by omega) u)
  have KD := Lib.hid (fun u => isdepth_calls D S u)
  have KT := Lib.hid (fun u => fits_calls M D u)
  have KK := fun u => ispacked_calls M u
  rw [hpk] at KK
  have KK := Lib.hid KK
  have KM := Lib.hid (fun u => mostcolors_calls D u)
  obtain ⟨b0, q0⟩ : ∃ x, ckD S W0 H P D M C 0 = x := ⟨_, rfl⟩
  have e0 : decide (W0 < 1) = b0 := by rw [← q0]; rfl
  have q0 := Lib.hid q0
  obtain ⟨b1, q1⟩ : ∃ x, ckD S W0 H P D M C 1 = x := ⟨_, rfl⟩
  have e1 : decide (16384 < W0) = b1 := by rw [← q1]; rfl
  have q1 := Lib.hid q1
  obtain ⟨b2, q2⟩ : ∃ x, ckD S W0 H P D M C 2 = x := ⟨_, rfl⟩
  have e2 : (H == 0) = b2 := by rw [← q2]; rfl
  have q2 := Lib.hid q2
  obtain ⟨b3, q3⟩ : ∃ x, ckD S W0 H P D M C 3 = x := ⟨_, rfl⟩
  have e3 : decide (16384 < fa H) = b3 := by rw [← q3]; rfl
  have q3 := Lib.hid q3
  obtain ⟨b4, q4⟩ : ∃ x, ckD S W0 H P D M C 4 = x := ⟨_, rfl⟩
  have e4 : (P != 1) = b4 := by rw [← q4]; rfl
  have q4 := Lib.hid q4
  obtain ⟨b5, q5⟩ : ∃ x, ckD S W0 H P D M C 5 = x := ⟨_, rfl⟩
  have e5 : (!(dpH D S)) = b5 := by rw [← q5]; rfl
  have q5 := Lib.hid q5
  obtain ⟨b6, q6⟩ : ∃ x, ckD S W0 H P D M C 6 = x := ⟨_, rfl⟩
  have e6 : decide (3 < M) = b6 := by rw [← q6]; rfl
  have q6 := Lib.hid q6
  obtain ⟨b7, q7⟩ : ∃ x, ckD S W0 H P D M C 7 = x := ⟨_, rfl⟩
  have e7 : (!(ftH M D)) = b7 := by rw [← q7]; rfl
  have q7 := Lib.hid q7
  obtain ⟨b8, q8⟩ : ∃ x, ckD S W0 H P D M C 8 = x := ⟨_, rfl⟩
  have e8 : decide (H < 0) = b8 := by rw [← q8]; show _ = (pkH M && decide (H < 0)); rw [hpk, Bool.true_and]
  have q8 := Lib.hid q8
  obtain ⟨b9, q9⟩ : ∃ x, ckD S W0 H P D M C 9 = x := ⟨_, rfl⟩
  have e9 : decide (mstC D < C) = b9 := by rw [← q9]; rfl
  have q9 := Lib.hid q9
  have HF := Lib.hid F
  have hK := F.le
  clear F h1 h2 hpk
  obtain ⟨h, p, d, hpc, qh, qp, qd⟩ : ∃ h p d : Int, pcA S = #[.int .i64 h, .int .i64 p, .int .i64 d] ∧ h = (if S = 12 then 6 else 8) ∧ p = (if S = 12 then 8 else 12) ∧ d = (if S = 12 then 10 else 14) := by
    unfold pcA
    split
    · exact ⟨_, _, _, rfl, rfl, rfl, rfl⟩
    · exact ⟨_, _, _, rfl, rfl, rfl, rfl⟩
  rw [hpc] at KP
  have KP := Lib.hid KP
  obtain ⟨kk, ekk⟩ : ∃ x, kdD K = x := ⟨_, rfl⟩
  obtain ⟨pp, epp⟩ : ∃ x, plD S K = x := ⟨_, rfl⟩
  rw [ekk, epp]
  have EK := Lib.hid ekk
  have EP := Lib.hid epp
  have QH := Lib.hid (And.intro qh (And.intro qp qd))
  clear ekk epp qh qp qd hpc
  go_enter Tryd.func23, Tryd.ntmps23
  go_upto_region 1 with fail
  have B0 := blk_at (w := W) (o := .cells #[.int .i64 S, .int .i64 W0, .int .i64 H, .int .i64 P, .int .i64 D, .int .i64 M, .int .i64 C] 62)
  have G0 := World.grownBy_alloc W (.cells #[.int .i64 S, .int .i64 W0, .int .i64 H, .int .i64 P, .int .i64 D, .int .i64 M, .int .i64 C] 62) none
  generalize W.alloc (.cells #[.int .i64 S, .int .i64 W0, .int .i64 H, .int .i64 P, .int .i64 D, .int .i64 M, .int .i64 C] 62) = w0 at B0 G0 ⊢
  have z0 := blk_cell B0 0
  simp only [List.getElem?_toArray, List.getElem?_cons_zero] at z0
  have HB0 := Lib.hid B0
  have HG0 := Lib.hid G0
  have hlt0 := blk_lt B0
  clear B0 G0
  go_wp2_with fail
  refine (KP.out _).mono ?_
  rintro e w1 ⟨rfl, g1⟩
  have B1 : w1.heap[W.heap.size]? = some (.cells #[.int .i64 S, .int .i64 W0, .int .i64 H, .int .i64 P, .int .i64 D, .int .i64 M, .int .i64 C] 62 (0, 0)) := old0 g1 HB0.out hlt0 (by simp)
  have G1 := Lib.hid (gb_trans (gb_trans HG0.out g1) (World.grownBy_alloc w1 (.cells #[.int .i64 h, .int .i64 p, .int .i64 d] 104) none))
  have B2 : (w1.alloc (.cells #[.int .i64 h, .int .i64 p, .int .i64 d] 104)).heap[W.heap.size]? = some (.cells #[.int .i64 S, .int .i64 W0, .int .i64 H, .int .i64 P, .int .i64 D, .int .i64 M, .int .i64 C] 62 (0, 0)) := blk_al B1 _
  have P2 : (w1.alloc (.cells #[.int .i64 h, .int .i64 p, .int .i64 d] 104)).heap[w1.heap.size]? = some (.cells #[.int .i64 h, .int .i64 p, .int .i64 d] 104 (0, 0)) := blk_at
  have c0 := blk_cell B1 0
  have a0 := blk_cell B2 0
  have c1 := blk_cell B1 1
  have a1 := blk_cell B2 1
  have c2 := blk_cell B1 2
  have a2 := blk_cell B2 2
  have c3 := blk_cell B1 3
  have a3 := blk_cell B2 3
  have c4 := blk_cell B1 4
  have a4 := blk_cell B2 4
  have c5 := blk_cell B1 5
  have a5 := blk_cell B2 5
  have c6 := blk_cell B1 6
  have a6 := blk_cell B2 6
  have p0 := blk_cell P2 0
  have p1 := blk_cell P2 1
  have p2 := blk_cell P2 2
  simp only [List.getElem?_toArray, List.getElem?_cons_succ, List.getElem?_cons_zero] at c0 c1 c2 c3 c4 c5 c6 a0 a1 a2 a3 a4 a5 a6 p0 p1 p2
  have hlt := blk_lt B1
  clear B1 B2 P2 g1 z0 hlt0
  go_wp2_with fail
  go_quiet ((first
    | (go_at_call 26; exact Calls.quiet_of_same ((KF.out _).mono (fun _ _ h => ⟨h.1, h.2.symm⟩)))
    | (go_at_call 48; exact Calls.quiet_of_same ((KD.out _).mono (fun _ _ h => ⟨h.1, h.2.symm⟩)))
    | (go_at_call 49; exact Calls.quiet_of_same ((KT.out _).mono (fun _ _ h => ⟨h.1, h.2.symm⟩)))
    | (go_at_call 50; exact Calls.quiet_of_same ((KK.out _).mono (fun _ _ h => ⟨h.1, h.2.symm⟩)))
    | (go_at_call 51; exact Calls.quiet_of_same ((KM.out _).mono (fun _ _ h => ⟨h.1, h.2.symm⟩)))))
  have G2 := Lib.hid (gb_trans G1.out (gb_drewN (w1.alloc (.cells #[.int .i64 h, .int .i64 p, .int .i64 d] 104)) nq _))
  generalize (w1.alloc (.cells #[.int .i64 h, .int .i64 p, .int .i64 d] 104)).drewN nq = w2 at G2 ⊢
  clear c0 a0 c1 a1 c2 a2 c3 a3 c4 a4 c5 a5 c6 a6 p0 p1 p2 hlt e0 e1 e2 e3 e4 e5 e6 e7 e8 e9 KF KD KT KK KM KP G1
  go_wp2_with fail
  go_loopg [76] 11 (fun q iv wr => ∃ (k : Nat), k ≤ K ∧ q = 11 - k ∧ iv = .int .i64 k ∧ W.grownBy wr none)
  case atStart => exact ⟨0, by omega, rfl, rfl, G2.out⟩
  case round =>
    obtain ⟨k, hk, rfl, rfl, J⟩ := hrel
    have HJ := Lib.hid J
    clear J G2
    obtain rfl | rfl | rfl | rfl | rfl | rfl | rfl | rfl | rfl | rfl | rfl : k = 0 ∨ k = 1 ∨ k = 2 ∨ k = 3 ∨ k = 4 ∨ k = 5 ∨ k = 6 ∨ k = 7 ∨ k = 8 ∨ k = 9 ∨ k = 10 := by omega
    · cases b0 with
      | true =>
        have hidx := idx_chk0 true b1 b2 b3 b4 b5 b6 b7 b8 b9 h p d wr
        have hKk : K = 0 := Nat.le_antisymm (Nat.le_of_not_lt (fun h => absurd ((HF.out.no 0 h).symm.trans q0.out) (by decide))) hk
        have E1 := Lib.hid (show kk = 2 from by rw [← EK.out, hKk]; rfl)
        have E2 := Lib.hid (show pp = 4 from by rw [← EP.out, hKk]; exact rfl)
        clear hKk hk
        go_wp2_with fail
        go_quiet (fail)
        go_wp2
        go_ret2
        exact ⟨by have h1 := E1.out; have h2 := E2.out; subst h1; subst h2; rfl, gb_trans (gb_trans HJ.out (World.grownBy_alloc _ _ none)) (gb_drewN _ _ _)⟩
      | false =>
        have hidx := idx_chk0 false b1 b2 b3 b4 b5 b6 b7 b8 b9 h p d wr
        have hKk : K ≠ 0 := fun h => absurd ((by rw [← h]; exact (HF.out.yes (by omega)) : ckD S W0 H P D M C 0 = true).symm.trans q0.out) (by decide)
        go_wp2
        go_roundg (11 - 1)
        case measure => omega
        case rel => exact ⟨1, by omega, rfl, rfl, gb_trans HJ.out (World.grownBy_alloc _ _ none)⟩
    · cases b1 with
      | true =>
        have hidx := idx_chk1 b0 true b2 b3 b4 b5 b6 b7 b8 b9 h p d wr
        have hKk : K = 1 := Nat.le_antisymm (Nat.le_of_not_lt (fun h => absurd ((HF.out.no 1 h).symm.trans q1.out) (by decide))) hk
        have E1 := Lib.hid (show kk = 3 from by rw [← EK.out, hKk]; rfl)
        have E2 := Lib.hid (show pp = 4 from by rw [← EP.out, hKk]; exact rfl)
        clear hKk hk
        go_wp2_with fail
        go_quiet (fail)
        go_wp2
        go_ret2
        exact ⟨by have h1 := E1.out; have h2 := E2.out; subst h1; subst h2; rfl, gb_trans (gb_trans HJ.out (World.grownBy_alloc _ _ none)) (gb_drewN _ _ _)⟩
      | false =>
        have hidx := idx_chk1 b0 false b2 b3 b4 b5 b6 b7 b8 b9 h p d wr
        have hKk : K ≠ 1 := fun h => absurd ((by rw [← h]; exact (HF.out.yes (by omega)) : ckD S W0 H P D M C 1 = true).symm.trans q1.out) (by decide)
        go_wp2
        go_roundg (11 - 2)
        case measure => omega
        case rel => exact ⟨2, by omega, rfl, rfl, gb_trans HJ.out (World.grownBy_alloc _ _ none)⟩
    · cases b2 with
      | true =>
        have hidx := idx_chk2 b0 b1 true b3 b4 b5 b6 b7 b8 b9 h p d wr
        have hKk : K = 2 := Nat.le_antisymm (Nat.le_of_not_lt (fun h => absurd ((HF.out.no 2 h).symm.trans q2.out) (by decide))) hk
        have E1 := Lib.hid (show kk = 2 from by rw [← EK.out, hKk]; rfl)
        have E2 := Lib.hid (show pp = h from by rw [← EP.out, hKk]; exact QH.out.1.symm)
        clear hKk hk
        go_wp2_with fail
        go_quiet (fail)
        go_wp2
        go_ret2
        exact ⟨by have h1 := E1.out; have h2 := E2.out; subst h1; subst h2; rfl, gb_trans (gb_trans HJ.out (World.grownBy_alloc _ _ none)) (gb_drewN _ _ _)⟩
      | false =>
        have hidx := idx_chk2 b0 b1 false b3 b4 b5 b6 b7 b8 b9 h p d wr
        have hKk : K ≠ 2 := fun h => absurd ((by rw [← h]; exact (HF.out.yes (by omega)) : ckD S W0 H P D M C 2 = true).symm.trans q2.out) (by decide)
        go_wp2
        go_roundg (11 - 3)
        case measure => omega
        case rel => exact ⟨3, by omega, rfl, rfl, gb_trans HJ.out (World.grownBy_alloc _ _ none)⟩
    · cases b3 with
      | true =>
        have hidx := idx_chk3 b0 b1 b2 true b4 b5 b6 b7 b8 b9 h p d wr
        have hKk : K = 3 := Nat.le_antisymm (Nat.le_of_not_lt (fun h => absurd ((HF.out.no 3 h).symm.trans q3.out) (by decide))) hk
        have E1 := Lib.hid (show kk = 3 from by rw [← EK.out, hKk]; rfl)
        have E2 := Lib.hid (show pp = h from by rw [← EP.out, hKk]; exact QH.out.1.symm)
        clear hKk hk
        go_wp2_with fail
        go_quiet (fail)
        go_wp2
        go_ret2
        exact ⟨by have h1 := E1.out; have h2 := E2.out; subst h1; subst h2; rfl, gb_trans (gb_trans HJ.out (World.grownBy_alloc _ _ none)) (gb_drewN _ _ _)⟩
      | false =>
        have hidx := idx_chk3 b0 b1 b2 false b4 b5 b6 b7 b8 b9 h p d wr
        have hKk : K ≠ 3 := fun h => absurd ((by rw [← h]; exact (HF.out.yes (by omega)) : ckD S W0 H P D M C 3 = true).symm.trans q3.out) (by decide)
        go_wp2
        go_roundg (11 - 4)
        case measure => omega
        case rel => exact ⟨4, by omega, rfl, rfl, gb_trans HJ.out (World.grownBy_alloc _ _ none)⟩
    · cases b4 with
      | true =>
        have hidx := idx_chk4 b0 b1 b2 b3 true b5 b6 b7 b8 b9 h p d wr
        have hKk : K = 4 := Nat.le_antisymm (Nat.le_of_not_lt (fun h => absurd ((HF.out.no 4 h).symm.trans q4.out) (by decide))) hk
        have E1 := Lib.hid (show kk = 2 from by rw [← EK.out, hKk]; rfl)
        have E2 := Lib.hid (show pp = p from by rw [← EP.out, hKk]; exact QH.out.2.1.symm)
        clear hKk hk
        go_wp2_with fail
        go_quiet (fail)
        go_wp2
        go_ret2
        exact ⟨by have h1 := E1.out; have h2 := E2.out; subst h1; subst h2; rfl, gb_trans (gb_trans HJ.out (World.grownBy_alloc _ _ none)) (gb_drewN _ _ _)⟩
      | false =>
        have hidx := idx_chk4 b0 b1 b2 b3 false b5 b6 b7 b8 b9 h p d wr
        have hKk : K ≠ 4 := fun h => absurd ((by rw [← h]; exact (HF.out.yes (by omega)) : ckD S W0 H P D M C 4 = true).symm.trans q4.out) (by decide)
        go_wp2
        go_roundg (11 - 5)
        case measure => omega
        case rel => exact ⟨5, by omega, rfl, rfl, gb_trans HJ.out (World.grownBy_alloc _ _ none)⟩
    · cases b5 with
      | true =>
        have hidx := idx_chk5 b0 b1 b2 b3 b4 true b6 b7 b8 b9 h p d wr
        have hKk : K = 5 := Nat.le_antisymm (Nat.le_of_not_lt (fun h => absurd ((HF.out.no 5 h).symm.trans q5.out) (by decide))) hk
        have E1 := Lib.hid (show kk = 3 from by rw [← EK.out, hKk]; rfl)
        have E2 := Lib.hid (show pp = d from by rw [← EP.out, hKk]; exact QH.out.2.2.symm)
        clear hKk hk
        go_wp2_with fail
        go_quiet (fail)
        go_wp2
        go_ret2
        exact ⟨by have h1 := E1.out; have h2 := E2.out; subst h1; subst h2; rfl, gb_trans (gb_trans HJ.out (World.grownBy_alloc _ _ none)) (gb_drewN _ _ _)⟩
      | false =>
        have hidx := idx_chk5 b0 b1 b2 b3 b4 false b6 b7 b8 b9 h p d wr
        have hKk : K ≠ 5 := fun h => absurd ((by rw [← h]; exact (HF.out.yes (by omega)) : ckD S W0 H P D M C 5 = true).symm.trans q5.out) (by decide)
        go_wp2
        go_roundg (11 - 6)
        case measure => omega
        case rel => exact ⟨6, by omega, rfl, rfl, gb_trans HJ.out (World.grownBy_alloc _ _ none)⟩
    · cases b6 with
      | true =>
        have hidx := idx_chk6 b0 b1 b2 b3 b4 b5 true b7 b8 b9 h p d wr
        have hKk : K = 6 := Nat.le_antisymm (Nat.le_of_not_lt (fun h => absurd ((HF.out.no 6 h).symm.trans q6.out) (by decide))) hk
        have E1 := Lib.hid (show kk = 3 from by rw [← EK.out, hKk]; rfl)
        have E2 := Lib.hid (show pp = 16 from by rw [← EP.out, hKk]; exact rfl)
        clear hKk hk
        go_wp2_with fail
        go_quiet (fail)
        go_wp2
        go_ret2
        exact ⟨by have h1 := E1.out; have h2 := E2.out; subst h1; subst h2; rfl, gb_trans (gb_trans HJ.out (World.grownBy_alloc _ _ none)) (gb_drewN _ _ _)⟩
      | false =>
        have hidx := idx_chk6 b0 b1 b2 b3 b4 b5 false b7 b8 b9 h p d wr
        have hKk : K ≠ 6 := fun h => absurd ((by rw [← h]; exact (HF.out.yes (by omega)) : ckD S W0 H P D M C 6 = true).symm.trans q6.out) (by decide)
        go_wp2
        go_roundg (11 - 7)
        case measure => omega
        case rel => exact ⟨7, by omega, rfl, rfl, gb_trans HJ.out (World.grownBy_alloc _ _ none)⟩
    · cases b7 with
      | true =>
        have hidx := idx_chk7 b0 b1 b2 b3 b4 b5 b6 true b8 b9 h p d wr
        have hKk : K = 7 := Nat.le_antisymm (Nat.le_of_not_lt (fun h => absurd ((HF.out.no 7 h).symm.trans q7.out) (by decide))) hk
        have E1 := Lib.hid (show kk = 2 from by rw [← EK.out, hKk]; rfl)
        have E2 := Lib.hid (show pp = 16 from by rw [← EP.out, hKk]; exact rfl)
        clear hKk hk
        go_wp2_with fail
        go_quiet (fail)
        go_wp2
        go_ret2
        exact ⟨by have h1 := E1.out; have h2 := E2.out; subst h1; subst h2; rfl, gb_trans (gb_trans HJ.out (World.grownBy_alloc _ _ none)) (gb_drewN _ _ _)⟩
      | false =>
        have hidx := idx_chk7 b0 b1 b2 b3 b4 b5 b6 false b8 b9 h p d wr
        have hKk : K ≠ 7 := fun h => absurd ((by rw [← h]; exact (HF.out.yes (by omega)) : ckD S W0 H P D M C 7 = true).symm.trans q7.out) (by decide)
        go_wp2
        go_roundg (11 - 8)
        case measure => omega
        case rel => exact ⟨8, by omega, rfl, rfl, gb_trans HJ.out (World.grownBy_alloc _ _ none)⟩
    · cases b8 with
      | true =>
        have hidx := idx_chk8 b0 b1 b2 b3 b4 b5 b6 b7 true b9 h p d wr
        have hKk : K = 8 := Nat.le_antisymm (Nat.le_of_not_lt (fun h => absurd ((HF.out.no 8 h).symm.trans q8.out) (by decide))) hk
        have E1 := Lib.hid (show kk = 2 from by rw [← EK.out, hKk]; rfl)
        have E2 := Lib.hid (show pp = h from by rw [← EP.out, hKk]; exact QH.out.1.symm)
        clear hKk hk
        go_wp2_with fail
        go_quiet (fail)
        go_wp2
        go_ret2
        exact ⟨by have h1 := E1.out; have h2 := E2.out; subst h1; subst h2; rfl, gb_trans (gb_trans HJ.out (World.grownBy_alloc _ _ none)) (gb_drewN _ _ _)⟩
      | false =>
        have hidx := idx_chk8 b0 b1 b2 b3 b4 b5 b6 b7 false b9 h p d wr
        have hKk : K ≠ 8 := fun h => absurd ((by rw [← h]; exact (HF.out.yes (by omega)) : ckD S W0 H P D M C 8 = true).symm.trans q8.out) (by decide)
        go_wp2
        go_roundg (11 - 9)
        case measure => omega
        case rel => exact ⟨9, by omega, rfl, rfl, gb_trans HJ.out (World.grownBy_alloc _ _ none)⟩
    · cases b9 with
      | true =>
        have hidx := idx_chk9 b0 b1 b2 b3 b4 b5 b6 b7 b8 true h p d wr
        have hKk : K = 9 := Nat.le_antisymm (Nat.le_of_not_lt (fun h => absurd ((HF.out.no 9 h).symm.trans q9.out) (by decide))) hk
        have E1 := Lib.hid (show kk = 2 from by rw [← EK.out, hKk]; rfl)
        have E2 := Lib.hid (show pp = 32 from by rw [← EP.out, hKk]; exact rfl)
        clear hKk hk
        go_wp2_with fail
        go_quiet (fail)
        go_wp2
        go_ret2
        exact ⟨by have h1 := E1.out; have h2 := E2.out; subst h1; subst h2; rfl, gb_trans (gb_trans HJ.out (World.grownBy_alloc _ _ none)) (gb_drewN _ _ _)⟩
      | false =>
        have hidx := idx_chk9 b0 b1 b2 b3 b4 b5 b6 b7 b8 false h p d wr
        have hKk : K ≠ 9 := fun h => absurd ((by rw [← h]; exact (HF.out.yes (by omega)) : ckD S W0 H P D M C 9 = true).symm.trans q9.out) (by decide)
        go_wp2
        go_roundg (11 - 10)
        case measure => omega
        case rel => exact ⟨10, by omega, rfl, rfl, gb_trans HJ.out (World.grownBy_alloc _ _ none)⟩
    · obtain rfl : K = 10 := by omega
      have E1 := Lib.hid (show kk = 0 from by rw [← EK.out]; rfl)
      have E2 := Lib.hid (show pp = 0 from by rw [← EP.out]; rfl)
      go_wp2
      go_ret2
      exact ⟨by have h1 := E1.out; have h2 := E2.out; subst h1; subst h2; rfl, HJ.out⟩

theorem wrong_calls (S W0 H P D M C : Int) (K : Nat) (W : World) (h1 : -2147483648 ≤ H) (h2 : H ≤ 2147483648) (F : FstB (ckD S W0 H P D M C) K) :
    Calls Tryd.prog 23 #[.agg #[.int .i64 S, .int .i64 W0, .int .i64 H, .int .i64 P, .int .i64 D, .int .i64 M, .int .i64 C]] W fun e w' => e = .returned (.tuple #[.int .i64 (kdD K), .int .i64 (plD S K)]) ∧ W.grownBy w' none := by
  cases h : pkH M
  · exact wrong_n S W0 H P D M C K W h1 h2 h F
  · exact wrong_y S W0 H P D M C K W h1 h2 h F

end Go.Proofs.YtikjfmpdfeaooaaDoor.Dh
