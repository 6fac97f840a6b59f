/- Layer 16: two heads compared; Bytes, walked. -/
import Derived.Test.YtgkeopgccocmkaaTga4
import Derived.Test.YtgkeopgccocmkaaTga5
namespace Go.Proofs.Ytgkeopgccocmkaa.Tg
open Go.ChangeShapes Go.WideShapes Go.ChangeAt Go.RowKit
open Go.Proofs.Ytgkeopgccocmkaa.Le Go.Proofs.Ytgkeopgccocmkaa.Sr
set_option linter.unusedVariables false

theorem eq_step {p q : Prop} [Decidable p] [Decidable q] {w : World} {R : Result Value} (h : R = .ok (.bool (decide q)) w) : (if p then R else .ok (.bool false) w) = .ok (.bool (decide (p ∧ q))) w := by
  by_cases hp : p
  · rw [if_pos hp, h]; simp [hp]
  · rw [if_neg hp]; simp [hp]
theorem eq_last {p : Prop} [Decidable p] {w : World} : (if p then Result.ok (Value.bool true) w else .ok (.bool false) w) = .ok (.bool (decide p)) w := by
  by_cases hp : p
  · rw [if_pos hp]; simp [hp]
  · rw [if_neg hp]; simp [hp]
theorem dn1 {w : World} {b : Nat} {x : Option Obj} (h : w.heap[b]? = x) : w.drew.heap[b]? = x := h
theorem neq_step {p q : Prop} [Decidable p] [Decidable q] {w : World} {R : Result Value} (h : R = .ok (.bool (!decide q)) w) : (if p then R else .ok (.bool true) w) = .ok (.bool (!decide (p ∧ q))) w := by
  by_cases hp : p
  · rw [if_pos hp, h]; simp [hp]
  · rw [if_neg hp]; simp [hp]
theorem neq_last {p : Prop} [Decidable p] {w : World} : (if p then Result.ok (Value.bool false) w else .ok (.bool true) w) = .ok (.bool (!decide p)) w := by
  by_cases hp : p
  · rw [if_pos hp]; simp [hp]
  · rw [if_neg hp]; simp [hp]
def hEq (a0 a2 a3 a4 a5 a6 a7 a8 a9 b0 b2 b3 b4 b5 b6 b7 b8 b9 : Int) (m l t m' l' t' : Bool) : Bool :=
  decide (a0 = b0 ∧ m = m' ∧ a2 = b2 ∧ a3 = b3 ∧ a4 = b4 ∧ a5 = b5 ∧ a6 = b6 ∧ a7 = b7 ∧ a8 = b8 ∧ a9 = b9 ∧ l = l' ∧ t = t')
set_option maxRecDepth 100000 in
theorem head_eql (a0 a2 a3 a4 a5 a6 a7 a8 a9 b0 b2 b3 b4 b5 b6 b7 b8 b9 : Int) (m l t m' l' t' : Bool) (w : World) :
    (binOp .eql 23 (.agg #[.int .i64 a0, .bool m, .int .i64 a2, .int .i64 a3, .int .i64 a4, .int .i64 a5, .int .i64 a6, .int .i64 a7, .int .i64 a8, .int .i64 a9, .bool l, .bool t]) (.agg #[.int .i64 b0, .bool m', .int .i64 b2, .int .i64 b3, .int .i64 b4, .int .i64 b5, .int .i64 b6, .int .i64 b7, .int .i64 b8, .int .i64 b9, .bool l', .bool t'])).run Try.prog w = .ok (.bool (hEq a0 a2 a3 a4 a5 a6 a7 a8 a9 b0 b2 b3 b4 b5 b6 b7 b8 b9 m l t m' l' t')) w := by
  go_simp
  unfold hEq
  exact eq_step (eq_step (eq_step (eq_step (eq_step (eq_step (eq_step (eq_step (eq_step (eq_step (eq_step eq_last))))))))))

set_option maxRecDepth 100000 in
theorem head_neq (a0 a2 a3 a4 a5 a6 a7 a8 a9 b0 b2 b3 b4 b5 b6 b7 b8 b9 : Int) (m l t m' l' t' : Bool) (w : World) :
    (binOp .neq 23 (.agg #[.int .i64 a0, .bool m, .int .i64 a2, .int .i64 a3, .int .i64 a4, .int .i64 a5, .int .i64 a6, .int .i64 a7, .int .i64 a8, .int .i64 a9, .bool l, .bool t]) (.agg #[.int .i64 b0, .bool m', .int .i64 b2, .int .i64 b3, .int .i64 b4, .int .i64 b5, .int .i64 b6, .int .i64 b7, .int .i64 b8, .int .i64 b9, .bool l', .bool t'])).run Try.prog w = .ok (.bool (!(hEq a0 a2 a3 a4 a5 a6 a7 a8 a9 b0 b2 b3 b4 b5 b6 b7 b8 b9 m l t m' l' t'))) w := by
  go_simp
  unfold hEq
  exact neq_step (neq_step (neq_step (neq_step (neq_step (neq_step (neq_step (neq_step (neq_step (neq_step (neq_step neq_last))))))))))

/-- Bytes: none, or eighteen that tell this head. -/
def BP (W : World) (H : Array Value) (e : Ending) (w' : World) : Prop :=
  W.grownBy w' none ∧ ((e = .returned (.tuple #[.string ⟨#[]⟩, .int .i64 6])) ∨ ∃ z : ByteArray, z.size = 18 ∧ Ck z 12 ∧ hA z = H ∧ e = .returned (.tuple #[.string z, .int .i64 0]))

theorem hEq_yes (z : ByteArray) (n0 n2 n3 n4 n5 n6 n7 n8 n9 : Int) (mp lf tp : Bool) (h : hEq (bn z 0) (bn z 2) (fst z) (cnt z) (ent z) (wd z 12) (wd z 14) (bn z 16) (alp z) n0 n2 n3 n4 n5 n6 n7 n8 n9 (mpB z) (lft z) (tpp z) mp lf tp = true) :
    hA z = #[.int .i64 n0, .bool mp, .int .i64 n2, .int .i64 n3, .int .i64 n4, .int .i64 n5, .int .i64 n6, .int .i64 n7, .int .i64 n8, .int .i64 n9, .bool lf, .bool tp] := by
  obtain ⟨h0, h1, h2, h3, h4, h5, h6, h7, h8, h9, h10, h11⟩ := of_decide_eq_true h
  unfold hA
  rw [h0, h1, h2, h3, h4, h5, h6, h7, h8, h9, h10, h11]
theorem kd_23 (K : Nat) (h : K < 12) : kdK K = 2 ∨ kdK K = 3 := by
  obtain rfl | rfl | rfl | rfl | rfl | rfl | rfl | rfl | rfl | rfl | rfl | rfl : K = 0 ∨ K = 1 ∨ K = 2 ∨ K = 3 ∨ K = 4 ∨ K = 5 ∨ K = 6 ∨ K = 7 ∨ K = 8 ∨ K = 9 ∨ K = 10 ∨ K = 11 := by omega
  all_goals decide
theorem kd_ne (K : Nat) (h : K < 12) : (kdK K == 0) = false := by
  obtain rfl | rfl | rfl | rfl | rfl | rfl | rfl | rfl | rfl | rfl | rfl | rfl : K = 0 ∨ K = 1 ∨ K = 2 ∨ K = 3 ∨ K = 4 ∨ K = 5 ∨ K = 6 ∨ K = 7 ∨ K = 8 ∨ K = 9 ∨ K = 10 ∨ K = 11 := by omega
  all_goals decide

set_option maxRecDepth 100000 in
set_option maxHeartbeats 4000000 in
theorem bytes_calls (n0 n2 n3 n4 n5 n6 n7 n8 n9 : Int) (mp lf tp : Bool) (W : World) :
    Calls Try.prog 4 #[.agg #[.int .i64 n0, .bool mp, .int .i64 n2, .int .i64 n3, .int .i64 n4, .int .i64 n5, .int .i64 n6, .int .i64 n7, .int .i64 n8, .int .i64 n9, .bool lf, .bool tp]] W
      (BP W #[.int .i64 n0, .bool mp, .int .i64 n2, .int .i64 n3, .int .i64 n4, .int .i64 n5, .int .i64 n6, .int .i64 n7, .int .i64 n8, .int .i64 n9, .bool lf, .bool tp]) := by
  have KT := Lib.hid (fun u => text_calls n0 n2 n3 n4 n5 n6 n7 n8 n9 mp lf tp u)
  go_enter Try.func4, Try.ntmps4
  go_wp2_with fail
  refine (KT.out _).mono ?_
  rintro e w1 ⟨z, rfl, hz, g1⟩
  have HB1 := Lib.hid (show w1.heap[W.heap.size]? = some (.cells #[.int .i64 n0, .bool mp, .int .i64 n2, .int .i64 n3, .int .i64 n4, .int .i64 n5, .int .i64 n6, .int .i64 n7, .int .i64 n8, .int .i64 n9, .bool lf, .bool tp] 23 (0, 0)) from old1 g1 (by simp))
  have G1 := Lib.hid (gb_trans (World.grownBy_alloc _ _ _) g1)
  obtain ⟨K, C⟩ := ck_ex z
  have HZ := Lib.hid hz
  have HC := Lib.hid C
  have KW := Lib.hid (fun u => wrong_calls z K u (by omega) (by omega) C)
  have KF0 := fun u => fields_calls z u (by omega) (by omega)
  unfold hA at KF0
  have KF := Lib.hid KF0
  clear g1 C KT hz KF0
  go_wp2_with fail
  refine (KW.out _).mono ?_
  rintro e w2 ⟨rfl, g2⟩
  have G2 := Lib.hid (gb_trans G1.out g2)
  have HB2 := Lib.hid (old0 g2 HB1.out (blk_lt HB1.out) (by simp))
  clear g2 KW HB1
  by_cases hK : K = 12
  · subst hK
    have k0 : (kdK 12 == 0) = true := rfl
    have k0' : (kdK 12 != 0) = false := rfl
    have hq := fun u => head_eql (bn z 0) (bn z 2) (fst z) (cnt z) (ent z) (wd z 12) (wd z 14) (bn z 16) (alp z) n0 n2 n3 n4 n5 n6 n7 n8 n9 (mpB z) (lft z) (tpp z) mp lf tp u
    obtain ⟨d, hd⟩ : ∃ d, hEq (bn z 0) (bn z 2) (fst z) (cnt z) (ent z) (wd z 12) (wd z 14) (bn z 16) (alp z) n0 n2 n3 n4 n5 n6 n7 n8 n9 (mpB z) (lft z) (tpp z) mp lf tp = d := ⟨_, rfl⟩
    simp only [hd] at hq
    have HD := Lib.hid hd
    clear hd
    have HQ := Lib.hid hq
    clear hq
    obtain ⟨kk, hkk⟩ : ∃ x, kdK 12 = x := ⟨_, rfl⟩
    rw [hkk] at k0 k0' ⊢
    clear hkk
    have hne := fun u => head_neq (bn z 0) (bn z 2) (fst z) (cnt z) (ent z) (wd z 12) (wd z 14) (bn z 16) (alp z) n0 n2 n3 n4 n5 n6 n7 n8 n9 (mpB z) (lft z) (tpp z) mp lf tp u
    simp only [HD.out] at hne
    have c0 := blk_cell HB2.out 0
    have c1 := blk_cell HB2.out 1
    have c2 := blk_cell HB2.out 2
    have c3 := blk_cell HB2.out 3
    have c4 := blk_cell HB2.out 4
    have c5 := blk_cell HB2.out 5
    have c6 := blk_cell HB2.out 6
    have c7 := blk_cell HB2.out 7
    have c8 := blk_cell HB2.out 8
    have c9 := blk_cell HB2.out 9
    have c10 := blk_cell HB2.out 10
    have c11 := blk_cell HB2.out 11
    have clt := blk_lt HB2.out
    go_wp2_with fail
    go_region_held3 (fun w' => w'.cell? ⟨W.heap.size, 0, none⟩ = some (.int .i64 n0) ∧ w'.cell? ⟨W.heap.size, 1, none⟩ = some (.bool mp) ∧ w'.cell? ⟨W.heap.size, 2, none⟩ = some (.int .i64 n2) ∧ w'.cell? ⟨W.heap.size, 3, none⟩ = some (.int .i64 n3) ∧ w'.cell? ⟨W.heap.size, 4, none⟩ = some (.int .i64 n4) ∧ w'.cell? ⟨W.heap.size, 5, none⟩ = some (.int .i64 n5) ∧ w'.cell? ⟨W.heap.size, 6, none⟩ = some (.int .i64 n6) ∧ w'.cell? ⟨W.heap.size, 7, none⟩ = some (.int .i64 n7) ∧ w'.cell? ⟨W.heap.size, 8, none⟩ = some (.int .i64 n8) ∧ w'.cell? ⟨W.heap.size, 9, none⟩ = some (.int .i64 n9) ∧ w'.cell? ⟨W.heap.size, 10, none⟩ = some (.bool lf) ∧ w'.cell? ⟨W.heap.size, 11, none⟩ = some (.bool tp)) (go_keep)
      (first | (go_at_call 11; refine (KF.out _).mono ?_; rintro e w3 ⟨rfl, g3⟩; have G3 := Lib.hid (gb_trans (gb_trans G2.out (gb_drew _ _)) g3); have HB3 := Lib.hid (old0 g3 (dn1 HB2.out) (blk_lt (dn1 HB2.out)) (by simp)); have k0 := blk_cell HB3.out 0; have k1 := blk_cell HB3.out 1; have k2 := blk_cell HB3.out 2; have k3 := blk_cell HB3.out 3; have k4 := blk_cell HB3.out 4; have k5 := blk_cell HB3.out 5; have k6 := blk_cell HB3.out 6; have k7 := blk_cell HB3.out 7; have k8 := blk_cell HB3.out 8; have k9 := blk_cell HB3.out 9; have k10 := blk_cell HB3.out 10; have k11 := blk_cell HB3.out 11))
    all_goals
      clear c0 c1 c2 c3 c4 c5 c6 c7 c8 c9 c10 c11 k0 k1 k2 k3 k4 k5 k6 k7 k8 k9 k10 k11
      have HOK := Lib.hid (fun h : d = true => hEq_yes z n0 n2 n3 n4 n5 n6 n7 n8 n9 mp lf tp (HD.out.trans h))
      cases d
      · go_wp2
        go_ret2
        exact ⟨G3.out, .inl rfl⟩
      · go_wp2
        go_ret2
        exact ⟨G3.out, .inr ⟨z, HZ.out, HC.out, HOK.out (by trivial), rfl⟩⟩
  · have k23 : kdK K = 2 ∨ kdK K = 3 := kd_23 K (by have := HC.out.le; omega)
    rcases k23 with k0 | k0
    all_goals
      rw [k0]
      clear k0 hK HC
      go_wp2_with fail
      go_quiet (fail)
      all_goals
        go_wp2
        go_ret2
        exact ⟨gb_trans G2.out (gb_drewN _ _ _), .inl rfl⟩

end Go.Proofs.Ytgkeopgccocmkaa.Tg
