/- Texts of one kind, one behind the other: Led1. -/
import Derived.IntWalk
import Derived.Laws.LoneSync
import Derived.Laws.NewBlocks
import Derived.Lib.Hide
import Derived.LoopTactic
import Derived.OpenShut
import Derived.Outline
import Derived.ProofKit
import Derived.Test.YtmhghkgcfgacdaaGreatRows
import Derived.WalkKit
/- Package ledger, from below: the atomic numbers' calls, a count that grows, one that is raised. One caller makes each loop end at its first turn. -/
namespace Go.Proofs.YtmhghkgcfgacdaaGreat.Le
open Go.ChangeShapes Go.WideShapes Go.ChangeAt Go.RowKit
set_option linter.unusedVariables false

/-- (*atomic.Int64).Load. -/
theorem load64 (a : Addr) (x : Int) (w : World) (hc : w.cell? a = some (.int .i64 x)) (hs : a.spot = none) :
    Calls Tryz.prog 34 #[.pointer (some a)] w fun e w' => e = .returned (.int .i64 x) ∧ w = w' := by
  obtain ⟨b, o, s⟩ := a
  simp only at hs
  subst hs
  have hl := run_call_load (P := Tryz.prog) Tryz.func54 (by kernel_rfl) (by kernel_rfl) (by kernel_rfl) .i64 (by kernel_rfl) hc
  go_enter Tryz.func34, Tryz.ntmps34
  go_wp2
  go_ret
  exact ⟨rfl, rfl⟩

/-- (*atomic.Int64).CompareAndSwap, which hits. -/
theorem cas64 (a : Addr) (x y : Int) (w : World) (hc : w.cell? a = some (.int .i64 x)) (hz : w.frozen? a = false) (hs : a.spot = none) :
    Calls Tryz.prog 94 #[.pointer (some a), .int .i64 x, .int .i64 y] w fun e w' => e = .returned (.bool true) ∧ w.setCell a (.int .i64 y) = w' := by
  obtain ⟨b, o, s⟩ := a
  simp only at hs
  subst hs
  have hl := run_call_cas_hit (P := Tryz.prog) Tryz.func103 (by kernel_rfl) (by kernel_rfl) (by kernel_rfl) .i64 (by kernel_rfl) (y := y) hc hz
  go_enter Tryz.func94, Tryz.ntmps94
  go_wp2
  go_ret
  exact ⟨rfl, rfl⟩

/-- (*atomic.Bool).Load. -/
theorem loadB (a : Addr) (x : Int) (w : World) (hc : w.cell? a = some (.int .u32 x)) (hs : a.spot = none) :
    Calls Tryz.prog 89 #[.pointer (some a)] w fun e w' => e = .returned (.bool (x != 0)) ∧ w = w' := by
  obtain ⟨b, o, s⟩ := a
  simp only at hs
  subst hs
  have hl := run_call_load (P := Tryz.prog) Tryz.func100 (by kernel_rfl) (by kernel_rfl) (by kernel_rfl) .u32 (by kernel_rfl) hc
  go_enter Tryz.func89, Tryz.ntmps89
  go_wp2
  go_ret
  exact ⟨rfl, rfl⟩

/-- A count that may grow. -/
theorem grow_yes (a : Addr) (n m x : Int) (w : World) (hc : w.cell? a = some (.int .i64 x)) (hz : w.frozen? a = false) (hs : a.spot = none)
    (x0 : 0 ≤ x) (xm : x ≤ m) (m1 : m ≤ 9223372036854775807) (n0 : 0 ≤ n) (h : n ≤ m - x) :
    Calls Tryz.prog 92 #[.pointer (some a), .int .i64 n, .int .i64 m] w fun e w' => e = .returned (.tuple #[.int .i64 (x + n), .bool true]) ∧ w.setCell a (.int .i64 (x + n)) = w' := by
  have H1 := Lib.hid (load64 a x w hc hs)
  have H2 := Lib.hid (cas64 a x (x + n) w hc hz hs)
  clear hc hz hs
  go_enter Tryz.func92, Tryz.ntmps92
  go_wp2
  refine wp_loop_rounds 1 ?_
  rw [rounds_succ]
  go_wp2_with (first | (go_at_call 34; refine H1.out.mono ?_; rintro e w' ⟨rfl, rfl⟩) | (go_at_call 94; refine H2.out.mono ?_; rintro e w' ⟨rfl, rfl⟩))
  go_ret2
  exact ⟨rfl, rfl⟩

/-- A count that may not. -/
theorem grow_no (a : Addr) (n m x : Int) (w : World) (hc : w.cell? a = some (.int .i64 x)) (hs : a.spot = none)
    (x0 : 0 ≤ x) (xm : x ≤ m) (m1 : m ≤ 9223372036854775807) (h : n < 0 ∨ m - x < n) :
    Calls Tryz.prog 92 #[.pointer (some a), .int .i64 n, .int .i64 m] w fun e w' => e = .returned (.tuple #[.int .i64 0, .bool false]) ∧ w = w' := by
  have H1 := Lib.hid (load64 a x w hc hs)
  clear hc hs
  by_cases hn : n < 0
  · clear h
    go_enter Tryz.func92, Tryz.ntmps92
    go_wp2
    refine wp_loop_rounds 1 ?_
    rw [rounds_succ]
    go_wp2_with (go_at_call 34; refine H1.out.mono ?_; rintro e w' ⟨rfl, rfl⟩)
    go_ret2
    exact ⟨rfl, rfl⟩
  · have h' : m - x < n := by omega
    have n0 : 0 ≤ n := by omega
    clear h hn
    go_enter Tryz.func92, Tryz.ntmps92
    go_wp2
    refine wp_loop_rounds 1 ?_
    rw [rounds_succ]
    go_wp2_with (go_at_call 34; refine H1.out.mono ?_; rintro e w' ⟨rfl, rfl⟩)
    go_ret2
    exact ⟨rfl, rfl⟩

/-- A count is raised, or stays. -/
theorem raise_any (a : Addr) (v x : Int) (w : World) (hc : w.cell? a = some (.int .i64 x)) (hz : w.frozen? a = false) (hs : a.spot = none) :
    Calls Tryz.prog 93 #[.pointer (some a), .int .i64 v] w fun e w' => e = .returned (.tuple #[]) ∧ (if v ≤ x then w else w.setCell a (.int .i64 v)) = w' := by
  have H1 := Lib.hid (load64 a x w hc hs)
  have H2 := Lib.hid (cas64 a x v w hc hz hs)
  clear hc hz hs
  by_cases h : v ≤ x
  · rw [if_pos h]
    go_enter Tryz.func93, Tryz.ntmps93
    go_wp2
    refine wp_loop_rounds 1 ?_
    rw [rounds_succ]
    go_wp2_with (first | (go_at_call 34; refine H1.out.mono ?_; rintro e w' ⟨rfl, rfl⟩) | (go_at_call 94; refine H2.out.mono ?_; rintro e w' ⟨rfl, rfl⟩))
    first | go_end0 | (simp only [Exit.inBlock, Exit.then]; refine bodyPost_ret (results_none rfl _ _ _) rfl ?_) | refine bodyPost_ret (results_none rfl _ _ _) rfl ?_
    exact ⟨rfl, rfl⟩
  · rw [if_neg h]
    have h' : x < v := by omega
    clear h
    go_enter Tryz.func93, Tryz.ntmps93
    go_wp2
    refine wp_loop_rounds 1 ?_
    rw [rounds_succ]
    go_wp2_with (first | (go_at_call 34; refine H1.out.mono ?_; rintro e w' ⟨rfl, rfl⟩) | (go_at_call 94; refine H2.out.mono ?_; rintro e w' ⟨rfl, rfl⟩))
    first | go_end0 | (simp only [Exit.inBlock, Exit.then]; refine bodyPost_ret (results_none rfl _ _ _) rfl ?_) | refine bodyPost_ret (results_none rfl _ _ _) rfl ?_
    exact ⟨rfl, rfl⟩

end Go.Proofs.YtmhghkgcfgacdaaGreat.Le
