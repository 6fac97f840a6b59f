/- Layer 31: budgets that are within others (written by wip/gen/ne8.py). -/
import Derived.Test.YtfhcefglefkakaaGreatDoorNe5
namespace Go.Proofs.YtfhcefglefkakaaGreatDoor.Ne
open Go.ChangeShapes Go.WideShapes Go.ChangeAt Go.RowKit
open Go.Proofs.YtfhcefglefkakaaGreatDoor.Le Go.Proofs.YtfhcefglefkakaaGreatDoor.Tk Go.Proofs.YtfhcefglefkakaaGreatDoor.Sr Go.Proofs.YtfhcefglefkakaaGreatDoor.Sn
set_option linter.unusedVariables false

/-- Is a number at most another one, those below 0 as 0? -/
def leB (x y : Int) : Bool := decide (x ≤ y ∨ x ≤ 0)
theorem max_le (x y : Int) : decide (max x 0 ≤ max y 0) = leB x y := by
  unfold leB
  rw [Bool.eq_iff_iff]
  simp only [decide_eq_true_eq]
  omega
theorem most_calls (x y : Int) (W : World) : Calls Tryz.prog 13 #[.int .i64 x, .int .i64 y] W fun e w' => e = .returned (.bool (leB x y)) ∧ W = w' := by
  have h := max_le x y
  cases hb : leB x y with
  | true =>
    rw [hb] at h
    clear hb
    go_enter Tryz.func13, Tryz.ntmps13
    go_wp2
    go_ret
    exact ⟨rfl, rfl⟩
  | false =>
    rw [hb] at h
    clear hb
    go_enter Tryz.func13, Tryz.ntmps13
    go_wp2
    go_ret
    exact ⟨rfl, rfl⟩
theorem le_calls (x y : Int) (W : World) : Calls Tryz.prog 8 #[.int .i64 x, .int .i64 y] W fun e w' => e = .returned (.bool (leB x y)) ∧ W = w' := by
  by_cases h1 : x ≤ y
  · rw [show leB x y = true from decide_eq_true (.inl h1)]
    have d1 : decide (x ≤ y) = true := decide_eq_true h1
    clear h1
    go_enter Tryz.func8, Tryz.ntmps8
    go_wp2
    go_ret
    exact ⟨rfl, rfl⟩
  · have d1 : decide (x ≤ y) = false := decide_eq_false h1
    by_cases h2 : x ≤ 0
    · rw [show leB x y = true from decide_eq_true (.inr h2)]
      have d2 : decide (x ≤ (0 : Int)) = true := decide_eq_true h2
      clear h1 h2
      go_enter Tryz.func8, Tryz.ntmps8
      go_wp2
      go_ret
      exact ⟨rfl, rfl⟩
    · rw [show leB x y = false from decide_eq_false (fun h => h.elim h1 h2)]
      have d2 : decide (x ≤ (0 : Int)) = false := decide_eq_false h2
      clear h1 h2
      go_enter Tryz.func8, Tryz.ntmps8
      go_wp2
      go_ret
      exact ⟨rfl, rfl⟩
theorem le_self (x : Int) : leB x x = true := decide_eq_true (.inl (Int.le_refl x))
/-- The first number that is greater; 4: none is. -/
inductive Lq (a0 a1 a2 a3 b0 b1 b2 b3 : Int) : Bool → Prop
  | n0 (h0 : leB a0 b0 = false) : Lq a0 a1 a2 a3 b0 b1 b2 b3 false
  | n1 (h0 : leB a0 b0 = true) (h1 : leB a1 b1 = false) : Lq a0 a1 a2 a3 b0 b1 b2 b3 false
  | n2 (h0 : leB a0 b0 = true) (h1 : leB a1 b1 = true) (h2 : leB a2 b2 = false) : Lq a0 a1 a2 a3 b0 b1 b2 b3 false
  | n3 (h0 : leB a0 b0 = true) (h1 : leB a1 b1 = true) (h2 : leB a2 b2 = true) (h3 : leB a3 b3 = false) : Lq a0 a1 a2 a3 b0 b1 b2 b3 false
  | n4 (h0 : leB a0 b0 = true) (h1 : leB a1 b1 = true) (h2 : leB a2 b2 = true) (h3 : leB a3 b3 = true) : Lq a0 a1 a2 a3 b0 b1 b2 b3 true
theorem lq_ex (a0 a1 a2 a3 b0 b1 b2 b3 : Int) : ∃ v, Lq a0 a1 a2 a3 b0 b1 b2 b3 v := by
  cases h0 : leB a0 b0 with
  | false => exact ⟨_, .n0 h0⟩
  | true =>
    cases h1 : leB a1 b1 with
    | false => exact ⟨_, .n1 h0 h1⟩
    | true =>
      cases h2 : leB a2 b2 with
      | false => exact ⟨_, .n2 h0 h1 h2⟩
      | true =>
        cases h3 : leB a3 b3 with
        | false => exact ⟨_, .n3 h0 h1 h2 h3⟩
        | true => exact ⟨_, .n4 h0 h1 h2 h3⟩

set_option maxRecDepth 100000 in
set_option maxHeartbeats 4000000 in
theorem within_calls (a0 a1 a2 a3 b0 b1 b2 b3 : Int) (v : Bool) (L : Lq a0 a1 a2 a3 b0 b1 b2 b3 v) (W : World) : Calls Tryz.prog 9 #[.agg #[.int .i64 a0, .int .i64 a1, .int .i64 a2, .int .i64 a3], .agg #[.int .i64 b0, .int .i64 b1, .int .i64 b2, .int .i64 b3]] W fun e w' => e = .returned (.bool v) ∧ W.grownBy w' none := by
  have hA : ((W.alloc (.cells #[.int .i64 a0, .int .i64 a1, .int .i64 a2, .int .i64 a3] 25)).alloc (.cells #[.int .i64 b0, .int .i64 b1, .int .i64 b2, .int .i64 b3] 25)).heap[W.heap.size]? = some (.cells #[.int .i64 a0, .int .i64 a1, .int .i64 a2, .int .i64 a3] 25 (0, 0)) := blk_al blk_at _
  have hB : ((W.alloc (.cells #[.int .i64 a0, .int .i64 a1, .int .i64 a2, .int .i64 a3] 25)).alloc (.cells #[.int .i64 b0, .int .i64 b1, .int .i64 b2, .int .i64 b3] 25)).heap[W.heap.size + 1]? = some (.cells #[.int .i64 b0, .int .i64 b1, .int .i64 b2, .int .i64 b3] 25 (0, 0)) := by
    rw [← size_alloc W (.cells #[.int .i64 a0, .int .i64 a1, .int .i64 a2, .int .i64 a3] 25)]
    exact blk_at
  have HG := Lib.hid (gb_trans (World.grownBy_alloc W (.cells #[.int .i64 a0, .int .i64 a1, .int .i64 a2, .int .i64 a3] 25) none) (World.grownBy_alloc _ (.cells #[.int .i64 b0, .int .i64 b1, .int .i64 b2, .int .i64 b3] 25) none))
  have K0 := fun u => most_calls a0 b0 u
  have K1 := fun u => most_calls a1 b1 u
  have K2 := fun u => most_calls a2 b2 u
  have K3 := fun u => most_calls a3 b3 u
  cases L with
  | n0 h0 =>
    rw [h0] at K0
    have K0 := Lib.hid K0
    clear h0 K1 K2 K3
    go_enter Tryz.func9, Tryz.ntmps9
    go_wp2_with fail
    generalize (W.alloc (.cells #[.int .i64 a0, .int .i64 a1, .int .i64 a2, .int .i64 a3] 25)).alloc (.cells #[.int .i64 b0, .int .i64 b1, .int .i64 b2, .int .i64 b3] 25) = w0 at hA hB HG ⊢
    have p0 := blk_cell hA 0
    have p1 := blk_cell hA 1
    have p2 := blk_cell hA 2
    have p3 := blk_cell hA 3
    have q0 := blk_cell hB 0
    have q1 := blk_cell hB 1
    have q2 := blk_cell hB 2
    have q3 := blk_cell hB 3
    simp only [List.getElem?_toArray, List.getElem?_cons_succ, List.getElem?_cons_zero] at p0 p1 p2 p3 q0 q1 q2 q3
    clear hA hB
    refine (K0.out _).mono ?_
    rintro e w' ⟨rfl, rfl⟩
    go_wp2
    go_ret
    exact ⟨rfl, HG.out⟩
  | n1 h0 h1 =>
    rw [h0] at K0
    rw [h1] at K1
    have K0 := Lib.hid K0
    have K1 := Lib.hid K1
    clear h0 h1 K2 K3
    go_enter Tryz.func9, Tryz.ntmps9
    go_wp2_with fail
    generalize (W.alloc (.cells #[.int .i64 a0, .int .i64 a1, .int .i64 a2, .int .i64 a3] 25)).alloc (.cells #[.int .i64 b0, .int .i64 b1, .int .i64 b2, .int .i64 b3] 25) = w0 at hA hB HG ⊢
    have p0 := blk_cell hA 0
    have p1 := blk_cell hA 1
    have p2 := blk_cell hA 2
    have p3 := blk_cell hA 3
    have q0 := blk_cell hB 0
    have q1 := blk_cell hB 1
    have q2 := blk_cell hB 2
    have q3 := blk_cell hB 3
    simp only [List.getElem?_toArray, List.getElem?_cons_succ, List.getElem?_cons_zero] at p0 p1 p2 p3 q0 q1 q2 q3
    clear hA hB
    refine (K0.out _).mono ?_
    rintro e w' ⟨rfl, rfl⟩
    go_wp2_with fail
    refine (K1.out _).mono ?_
    rintro e w' ⟨rfl, rfl⟩
    go_wp2
    go_ret
    exact ⟨rfl, HG.out⟩
  | n2 h0 h1 h2 =>
    rw [h0] at K0
    rw [h1] at K1
    rw [h2] at K2
    have K0 := Lib.hid K0
    have K1 := Lib.hid K1
    have K2 := Lib.hid K2
    clear h0 h1 h2 K3
    go_enter Tryz.func9, Tryz.ntmps9
    go_wp2_with fail
    generalize (W.alloc (.cells #[.int .i64 a0, .int .i64 a1, .int .i64 a2, .int .i64 a3] 25)).alloc (.cells #[.int .i64 b0, .int .i64 b1, .int .i64 b2, .int .i64 b3] 25) = w0 at hA hB HG ⊢
    have p0 := blk_cell hA 0
    have p1 := blk_cell hA 1
    have p2 := blk_cell hA 2
    have p3 := blk_cell hA 3
    have q0 := blk_cell hB 0
    have q1 := blk_cell hB 1
    have q2 := blk_cell hB 2
    have q3 := blk_cell hB 3
    simp only [List.getElem?_toArray, List.getElem?_cons_succ, List.getElem?_cons_zero] at p0 p1 p2 p3 q0 q1 q2 q3
    clear hA hB
    refine (K0.out _).mono ?_
    rintro e w' ⟨rfl, rfl⟩
    go_wp2_with fail
    refine (K1.out _).mono ?_
    rintro e w' ⟨rfl, rfl⟩
    go_wp2_with fail
    refine (K2.out _).mono ?_
    rintro e w' ⟨rfl, rfl⟩
    go_wp2
    go_ret
    exact ⟨rfl, HG.out⟩
  | n3 h0 h1 h2 h3 =>
    rw [h0] at K0
    rw [h1] at K1
    rw [h2] at K2
    rw [h3] at K3
    have K0 := Lib.hid K0
    have K1 := Lib.hid K1
    have K2 := Lib.hid K2
    have K3 := Lib.hid K3
    clear h0 h1 h2 h3
    go_enter Tryz.func9, Tryz.ntmps9
    go_wp2_with fail
    generalize (W.alloc (.cells #[.int .i64 a0, .int .i64 a1, .int .i64 a2, .int .i64 a3] 25)).alloc (.cells #[.int .i64 b0, .int .i64 b1, .int .i64 b2, .int .i64 b3] 25) = w0 at hA hB HG ⊢
    have p0 := blk_cell hA 0
    have p1 := blk_cell hA 1
    have p2 := blk_cell hA 2
    have p3 := blk_cell hA 3
    have q0 := blk_cell hB 0
    have q1 := blk_cell hB 1
    have q2 := blk_cell hB 2
    have q3 := blk_cell hB 3
    simp only [List.getElem?_toArray, List.getElem?_cons_succ, List.getElem?_cons_zero] at p0 p1 p2 p3 q0 q1 q2 q3
    clear hA hB
    refine (K0.out _).mono ?_
    rintro e w' ⟨rfl, rfl⟩
    go_wp2_with fail
    refine (K1.out _).mono ?_
    rintro e w' ⟨rfl, rfl⟩
    go_wp2_with fail
    refine (K2.out _).mono ?_
    rintro e w' ⟨rfl, rfl⟩
    go_wp2_with fail
    refine (K3.out _).mono ?_
    rintro e w' ⟨rfl, rfl⟩
    go_wp2
    go_ret
    exact ⟨rfl, HG.out⟩
  | n4 h0 h1 h2 h3 =>
    rw [h0] at K0
    rw [h1] at K1
    rw [h2] at K2
    rw [h3] at K3
    have K0 := Lib.hid K0
    have K1 := Lib.hid K1
    have K2 := Lib.hid K2
    have K3 := Lib.hid K3
    clear h0 h1 h2 h3
    go_enter Tryz.func9, Tryz.ntmps9
    go_wp2_with fail
    generalize (W.alloc (.cells #[.int .i64 a0, .int .i64 a1, .int .i64 a2, .int .i64 a3] 25)).alloc (.cells #[.int .i64 b0, .int .i64 b1, .int .i64 b2, .int .i64 b3] 25) = w0 at hA hB HG ⊢
    have p0 := blk_cell hA 0
    have p1 := blk_cell hA 1
    have p2 := blk_cell hA 2
    have p3 := blk_cell hA 3
    have q0 := blk_cell hB 0
    have q1 := blk_cell hB 1
    have q2 := blk_cell hB 2
    have q3 := blk_cell hB 3
    simp only [List.getElem?_toArray, List.getElem?_cons_succ, List.getElem?_cons_zero] at p0 p1 p2 p3 q0 q1 q2 q3
    clear hA hB
    refine (K0.out _).mono ?_
    rintro e w' ⟨rfl, rfl⟩
    go_wp2_with fail
    refine (K1.out _).mono ?_
    rintro e w' ⟨rfl, rfl⟩
    go_wp2_with fail
    refine (K2.out _).mono ?_
    rintro e w' ⟨rfl, rfl⟩
    go_wp2_with fail
    refine (K3.out _).mono ?_
    rintro e w' ⟨rfl, rfl⟩
    go_wp2
    go_ret
    exact ⟨rfl, HG.out⟩

end Go.Proofs.YtfhcefglefkakaaGreatDoor.Ne
