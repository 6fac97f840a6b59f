/- The law of layer 16, walked. -/
import Derived.Test.YtgkeopgccocmkaaTga9
namespace Go.Proofs.Ytgkeopgccocmkaa.Tg
open Go.ChangeShapes Go.WideShapes Go.ChangeAt Go.RowKit
open Go.Proofs.Ytgkeopgccocmkaa.Le Go.Proofs.Ytgkeopgccocmkaa.Sr
set_option linter.unusedVariables false

theorem pk_eq (t : Int) : (decide (9 ≤ t) && decide (t ≤ 11)) = ((t == 9) || ((t == 10) || (t == 11))) := by
  rw [Bool.eq_iff_iff]
  simp
  omega

theorem field12 (n0 m n2 n3 n4 n5 n6 n7 n8 n9 k p : Int) (lf tp : Bool) (w : World) :
    (Instr.field 30 (.agg #[.int .i64 n0, .int .i64 m, .int .i64 n2, .int .i64 n3, .int .i64 n4, .int .i64 n5, .int .i64 n6, .int .i64 n7, .int .i64 n8, .int .i64 n9, .bool lf, .bool tp, .int .i64 k, .int .i64 p]) 12).run Try.prog w = .ok (.int .i64 k) w := by kernel_rfl
theorem rgood_of (z : ByteArray) (n0 n2 n3 n4 n5 n6 n7 n8 n9 : Int) (mp lf tp : Bool) (h : hA z = #[.int .i64 n0, .bool mp, .int .i64 n2, .int .i64 n3, .int .i64 n4, .int .i64 n5, .int .i64 n6, .int .i64 n7, .int .i64 n8, .int .i64 n9, .bool lf, .bool tp]) : rGood z = #[.int .i64 n0, .int .i64 (if mp then 1 else 0), .int .i64 n2, .int .i64 n3, .int .i64 n4, .int .i64 n5, .int .i64 n6, .int .i64 n7, .int .i64 n8, .int .i64 n9, .bool lf, .bool tp, .int .i64 0, .int .i64 0] := by
  unfold hA at h
  simp only [Array.mk.injEq, List.cons.injEq, Value.int.injEq, Value.bool.injEq, true_and, and_true] at h
  obtain ⟨h0, h1, h2, h3, h4, h5, h6, h7, h8, h9, h10, h11⟩ := h
  unfold rGood
  rw [h0, h1, h2, h3, h4, h5, h6, h7, h8, h9, h10, h11]

/-- Block b is the law's own head. -/
def LH (b : Nat) (n0 n2 n3 n4 n5 n6 n7 n8 n9 : Int) (mp lf tp : Bool) (w : World) : Prop := w.heap[b]? = some (.cells #[.int .i64 n0, .bool mp, .int .i64 n2, .int .i64 n3, .int .i64 n4, .int .i64 n5, .int .i64 n6, .int .i64 n7, .int .i64 n8, .int .i64 n9, .bool lf, .bool tp] 23 (0, 0))

set_option maxRecDepth 100000 in
set_option maxHeartbeats 4000000 in
theorem bytes_at (n0 n2 n3 n4 n5 n6 n7 n8 n9 : Int) (mp lf tp : Bool) (W : World) (x9 x10 x11 : Bool) (e9 : (n2 == 9) = x9) (e10 : (n2 == 10) = x10) (e11 : (n2 == 11) = x11) (KP0 : ∀ u, Calls Try.prog 5 #[.int .i64 n2] u fun e w' => e = .returned (.bool (x9 || (x10 || x11))) ∧ w' = u)
    (KG0 : ∀ z : ByteArray, 18 ≤ z.size → z.size ≤ 9223372036854775807 → Ck z 12 → ∀ u, Calls Try.prog 7 #[.string z] u fun e w' => e = .returned (.agg (rGood z)) ∧ u.grownBy w' none) :
    Calls Try.prog 3 #[.agg #[.int .i64 n0, .bool mp, .int .i64 n2, .int .i64 n3, .int .i64 n4, .int .i64 n5, .int .i64 n6, .int .i64 n7, .int .i64 n8, .int .i64 n9, .bool lf, .bool tp]] W fun e w' => e = .returned (.bool true) ∧ W.grownBy w' none := by
  have KP := Lib.hid KP0
  clear KP0
  have KB := Lib.hid (fun u => bytes_calls n0 n2 n3 n4 n5 n6 n7 n8 n9 mp lf tp u)
  have KW := Lib.hid (fun u => awake_calls u)
  go_enter Try.func3, Try.ntmps3
  go_wp2_with fail
  refine (KB.out _).mono ?_
  rintro e w1 ⟨g1, h1⟩
  have HH := Lib.hid (show LH W.heap.size n0 n2 n3 n4 n5 n6 n7 n8 n9 mp lf tp w1 from old1 g1 (by simp))
  have HG1 := Lib.hid (gb_trans (World.grownBy_alloc _ _ _) g1)
  clear g1 KB
  obtain ⟨b, hb⟩ : ∃ b, W.heap.size = b := ⟨_, rfl⟩
  rw [hb] at HH ⊢
  clear hb
  have c0 := blk_cell HH.out 0
  have c1 := blk_cell HH.out 1
  have c2 := blk_cell HH.out 2
  have c3 := blk_cell HH.out 3
  have c4 := blk_cell HH.out 4
  have c5 := blk_cell HH.out 5
  have c6 := blk_cell HH.out 6
  have c7 := blk_cell HH.out 7
  have c8 := blk_cell HH.out 8
  have c9 := blk_cell HH.out 9
  have c10 := blk_cell HH.out 10
  have c11 := blk_cell HH.out 11
  have clt := blk_lt HH.out
  obtain rfl | ⟨z, hz, C, hA', rfl⟩ := h1
  · go_wp2_with fail
    cases x9 <;> cases x10 <;> cases x11
    all_goals
      go_quiet ((go_at_call 5; exact Calls.quiet_of_same (KP.out _)))
      go_wp2_with fail
      refine (KW.out _).mono ?_
      rintro e w2 ⟨rfl, g2⟩
      have HG2 := Lib.hid (gb_trans (gb_trans HG1.out (gb_drewN _ _ _)) g2)
      clear g2
      go_wp2
      go_ret
      exact ⟨rfl, HG2.out⟩
  · have hg := rgood_of z n0 n2 n3 n4 n5 n6 n7 n8 n9 mp lf tp hA'
    have KG1 := fun u => KG0 z (by omega) (by omega) C u
    rw [hg] at KG1
    have KG := Lib.hid KG1
    have KS := Lib.hid (fun u => same_yes n0 n2 n3 n4 n5 n6 n7 n8 n9 0 0 mp lf tp u)
    have hz' : (z.size : Int) = 18 := by omega
    obtain ⟨m, hm⟩ : ∃ m : Int, (if mp then 1 else 0) = m := ⟨_, rfl⟩
    rw [hm] at KG KS
    clear C hA' hz hg KG1 KG0 hm
    have f12 := fun w => field12 n0 m n2 n3 n4 n5 n6 n7 n8 n9 0 0 lf tp w
    go_wp2_with fail
    cases x9 <;> cases x10 <;> cases x11
    all_goals
      go_quiet ((go_at_call 5; exact Calls.quiet_of_same (KP.out _)))
      have HB0 := Lib.hid (show LH b n0 n2 n3 n4 n5 n6 n7 n8 n9 mp lf tp (w1.drewN nq) from HH.out)
      have HG0 := Lib.hid (gb_trans HG1.out (gb_drewN _ nq _))
      generalize w1.drewN nq = w2 at HB0 HG0 ⊢
      clear c0 c1 c2 c3 c4 c5 c6 c7 c8 c9 c10 c11 clt
      have c0 := blk_cell HB0.out 0
      have c1 := blk_cell HB0.out 1; have c2 := blk_cell HB0.out 2; have c3 := blk_cell HB0.out 3; have c4 := blk_cell HB0.out 4; have c5 := blk_cell HB0.out 5; have c6 := blk_cell HB0.out 6; have c7 := blk_cell HB0.out 7; have c8 := blk_cell HB0.out 8; have c9 := blk_cell HB0.out 9; have c10 := blk_cell HB0.out 10; have c11 := blk_cell HB0.out 11
      have clt := blk_lt HB0.out
      go_wp2_with fail
      go_region_held3 (fun w' => w'.cell? ⟨b, 0, none⟩ = some (.int .i64 n0) ∧ w'.cell? ⟨b, 1, none⟩ = some (.bool mp) ∧ w'.cell? ⟨b, 2, none⟩ = some (.int .i64 n2) ∧ w'.cell? ⟨b, 3, none⟩ = some (.int .i64 n3) ∧ w'.cell? ⟨b, 4, none⟩ = some (.int .i64 n4) ∧ w'.cell? ⟨b, 5, none⟩ = some (.int .i64 n5) ∧ w'.cell? ⟨b, 6, none⟩ = some (.int .i64 n6) ∧ w'.cell? ⟨b, 7, none⟩ = some (.int .i64 n7) ∧ w'.cell? ⟨b, 8, none⟩ = some (.int .i64 n8) ∧ w'.cell? ⟨b, 9, none⟩ = some (.int .i64 n9) ∧ w'.cell? ⟨b, 10, none⟩ = some (.bool lf) ∧ w'.cell? ⟨b, 11, none⟩ = some (.bool tp)) (go_keep)
        (first
          | (go_at_call 7; refine (KG.out _).mono ?_; rintro e w3 ⟨rfl, g3⟩; have HG3 := Lib.hid (show W.grownBy w3 none from by first | exact gb_trans (gb_trans HG0.out (gb_drew _ _)) g3 | exact gb_trans HG0.out g3); have HB3 := Lib.hid (show LH b n0 n2 n3 n4 n5 n6 n7 n8 n9 mp lf tp w3 from by first | exact old0 g3 (show LH b n0 n2 n3 n4 n5 n6 n7 n8 n9 mp lf tp w2.drew from HB0.out) (blk_lt (show LH b n0 n2 n3 n4 n5 n6 n7 n8 n9 mp lf tp w2.drew from HB0.out)) (by simp) | exact old0 g3 HB0.out (blk_lt HB0.out) (by simp)); have k3_0 := blk_cell HB3.out 0; have k3_1 := blk_cell HB3.out 1; have k3_2 := blk_cell HB3.out 2; have k3_3 := blk_cell HB3.out 3; have k3_4 := blk_cell HB3.out 4; have k3_5 := blk_cell HB3.out 5; have k3_6 := blk_cell HB3.out 6; have k3_7 := blk_cell HB3.out 7; have k3_8 := blk_cell HB3.out 8; have k3_9 := blk_cell HB3.out 9; have k3_10 := blk_cell HB3.out 10; have k3_11 := blk_cell HB3.out 11)
          | (go_at_call 7; refine (KG.out _).mono ?_; rintro e w4 ⟨rfl, g4⟩; have HG4 := Lib.hid (show W.grownBy w4 none from gb_trans HG3.out g4); have HB4 := Lib.hid (show LH b n0 n2 n3 n4 n5 n6 n7 n8 n9 mp lf tp w4 from old0 g4 HB3.out (blk_lt HB3.out) (by simp)); have k4_0 := blk_cell HB4.out 0; have k4_1 := blk_cell HB4.out 1; have k4_2 := blk_cell HB4.out 2; have k4_3 := blk_cell HB4.out 3; have k4_4 := blk_cell HB4.out 4; have k4_5 := blk_cell HB4.out 5; have k4_6 := blk_cell HB4.out 6; have k4_7 := blk_cell HB4.out 7; have k4_8 := blk_cell HB4.out 8; have k4_9 := blk_cell HB4.out 9; have k4_10 := blk_cell HB4.out 10; have k4_11 := blk_cell HB4.out 11)
          | (go_at_call 8; refine (KS.out _).mono ?_; rintro e w5 ⟨rfl, g5⟩; have HG5 := Lib.hid (show W.grownBy w5 none from gb_trans HG4.out g5); have HB5 := Lib.hid (show LH b n0 n2 n3 n4 n5 n6 n7 n8 n9 mp lf tp w5 from old0 g5 HB4.out (blk_lt HB4.out) (by simp)); have k5_0 := blk_cell HB5.out 0; have k5_1 := blk_cell HB5.out 1; have k5_2 := blk_cell HB5.out 2; have k5_3 := blk_cell HB5.out 3; have k5_4 := blk_cell HB5.out 4; have k5_5 := blk_cell HB5.out 5; have k5_6 := blk_cell HB5.out 6; have k5_7 := blk_cell HB5.out 7; have k5_8 := blk_cell HB5.out 8; have k5_9 := blk_cell HB5.out 9; have k5_10 := blk_cell HB5.out 10; have k5_11 := blk_cell HB5.out 11)
          | (go_at_call 6; refine (KW.out _).mono ?_; rintro e w6 ⟨rfl, g6⟩; have HG6 := Lib.hid (show W.grownBy w6 none from gb_trans HG5.out g6); have HB6 := Lib.hid (show LH b n0 n2 n3 n4 n5 n6 n7 n8 n9 mp lf tp w6 from old0 g6 HB5.out (blk_lt HB5.out) (by simp)); have k6_0 := blk_cell HB6.out 0; have k6_1 := blk_cell HB6.out 1; have k6_2 := blk_cell HB6.out 2; have k6_3 := blk_cell HB6.out 3; have k6_4 := blk_cell HB6.out 4; have k6_5 := blk_cell HB6.out 5; have k6_6 := blk_cell HB6.out 6; have k6_7 := blk_cell HB6.out 7; have k6_8 := blk_cell HB6.out 8; have k6_9 := blk_cell HB6.out 9; have k6_10 := blk_cell HB6.out 10; have k6_11 := blk_cell HB6.out 11))
      all_goals
        go_wp2
        go_ret
        exact ⟨rfl, HG6.out⟩

end Go.Proofs.Ytgkeopgccocmkaa.Tg
