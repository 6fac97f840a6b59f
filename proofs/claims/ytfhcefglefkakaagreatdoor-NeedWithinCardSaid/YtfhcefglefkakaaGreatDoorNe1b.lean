/- Layer 31: the map of readers. -/
import Derived.Test.YtfhcefglefkakaaGreatDoorNe1
namespace Go.Proofs.YtfhcefglefkakaaGreatDoor.Ne
open Go.ChangeShapes Go.WideShapes Go.ChangeAt Go.RowKit Go.Maps
open Go.Proofs.YtfhcefglefkakaaGreatDoor.Le Go.Proofs.YtfhcefglefkakaaGreatDoor.Tk Go.Proofs.YtfhcefglefkakaaGreatDoor.Sr Go.Proofs.YtfhcefglefkakaaGreatDoor.Sn
set_option linter.unusedVariables false

/-- The readers, as they are laid in the map. -/
def rdF : Nat → Nat
  | 0 => 19
  | 1 => 20
  | 2 => 21
  | 3 => 22
  | 4 => 23
  | 5 => 24
  | 6 => 25
  | 7 => 26
  | _ => 0
def DS : Nat → DataW Value
  | 0 => .map []
  | i + 1 => (DS i).put (.int .i64 ((i + 1 : Nat) : Int)) (.held (fnV (rdF i)))

set_option maxRecDepth 100000 in
set_option maxHeartbeats 4000000 in
theorem readers_calls (W : World) : Calls Tryz.prog 15 #[] W fun e w' => ∃ M, e = .returned (.map (some M)) ∧ W.grownBy w' none ∧
    (Instr.lookup 43 (.map (some M)) (.int .i64 3) true).run Tryz.prog w' = .ok (.tuple #[fnV 21, .bool true]) w' := by
  have hmm := @run_makeMap Tryz.prog
  have hown0 := World.ownsMap_made W Tryz.prog 3 heldR
  go_enter Tryz.func15, Tryz.ntmps15
  go_wp2_with (first
    | (refine wpList_insert_own _ rfl _ _ _ 43 rfl 3 41 ilaw Tryz.underlying43 heldR W.heap.size 0 (DS 0) rfl hown0 (by unfold maxLen; omega) (.int .i64 1) (fnV 19) (.int .i64 1) rfl rfl (Go.Maps.keyOf_int_mk Tryz.underlying3 (by decide)) (.held (fnV 19)) [] rfl ?_; intro w1 hown1 hg1)
    | (refine wpList_insert_own _ rfl _ _ _ 43 rfl 3 41 ilaw Tryz.underlying43 heldR W.heap.size 1 (DS 1) rfl hown1 (by unfold maxLen; omega) (.int .i64 2) (fnV 20) (.int .i64 2) rfl rfl (Go.Maps.keyOf_int_mk Tryz.underlying3 (by decide)) (.held (fnV 20)) [] rfl ?_; intro w2 hown2 hg2)
    | (refine wpList_insert_own _ rfl _ _ _ 43 rfl 3 41 ilaw Tryz.underlying43 heldR W.heap.size 2 (DS 2) rfl hown2 (by unfold maxLen; omega) (.int .i64 3) (fnV 21) (.int .i64 3) rfl rfl (Go.Maps.keyOf_int_mk Tryz.underlying3 (by decide)) (.held (fnV 21)) [] rfl ?_; intro w3 hown3 hg3)
    | (refine wpList_insert_own _ rfl _ _ _ 43 rfl 3 41 ilaw Tryz.underlying43 heldR W.heap.size 3 (DS 3) rfl hown3 (by unfold maxLen; omega) (.int .i64 4) (fnV 22) (.int .i64 4) rfl rfl (Go.Maps.keyOf_int_mk Tryz.underlying3 (by decide)) (.held (fnV 22)) [] rfl ?_; intro w4 hown4 hg4)
    | (refine wpList_insert_own _ rfl _ _ _ 43 rfl 3 41 ilaw Tryz.underlying43 heldR W.heap.size 4 (DS 4) rfl hown4 (by unfold maxLen; omega) (.int .i64 5) (fnV 23) (.int .i64 5) rfl rfl (Go.Maps.keyOf_int_mk Tryz.underlying3 (by decide)) (.held (fnV 23)) [] rfl ?_; intro w5 hown5 hg5)
    | (refine wpList_insert_own _ rfl _ _ _ 43 rfl 3 41 ilaw Tryz.underlying43 heldR W.heap.size 5 (DS 5) rfl hown5 (by unfold maxLen; omega) (.int .i64 6) (fnV 24) (.int .i64 6) rfl rfl (Go.Maps.keyOf_int_mk Tryz.underlying3 (by decide)) (.held (fnV 24)) [] rfl ?_; intro w6 hown6 hg6)
    | (refine wpList_insert_own _ rfl _ _ _ 43 rfl 3 41 ilaw Tryz.underlying43 heldR W.heap.size 6 (DS 6) rfl hown6 (by unfold maxLen; omega) (.int .i64 7) (fnV 25) (.int .i64 7) rfl rfl (Go.Maps.keyOf_int_mk Tryz.underlying3 (by decide)) (.held (fnV 25)) [] rfl ?_; intro w7 hown7 hg7)
    | (refine wpList_insert_own _ rfl _ _ _ 43 rfl 3 41 ilaw Tryz.underlying43 heldR W.heap.size 7 (DS 7) rfl hown7 (by unfold maxLen; omega) (.int .i64 8) (fnV 26) (.int .i64 8) rfl rfl (Go.Maps.keyOf_int_mk Tryz.underlying3 (by decide)) (.held (fnV 26)) [] rfl ?_; intro w8 hown8 hg8)
    | fail)
  go_ret
  have HG := gb_own (gb_own (gb_own (gb_own (gb_own (gb_own (gb_own (gb_own (World.grownBy_alloc W (.map #[] 0) none) (Nat.le_refl _) hg1) (Nat.le_refl _) hg2) (Nat.le_refl _) hg3) (Nat.le_refl _) hg4) (Nat.le_refl _) hg5) (Nat.le_refl _) hg6) (Nat.le_refl _) hg7) (Nat.le_refl _) hg8
  refine ⟨_, rfl, HG, ?_⟩
  obtain ⟨v, ps, hrun, hv⟩ := hown8.look_ok ilaw Tryz.underlying43 (z := .nilFunc) (by kernel_rfl) (zd := .held .nilFunc) (zp := []) rfl (Go.Maps.keyOf_int_mk Tryz.underlying3 (a := 3) (by decide))
  rw [hrun]
  have e1 : DataW.atKey (DS 8) (.int .i64 3) (.held Value.nilFunc) = .held (fnV 21) := by rfl
  have e2 : Maps.has (DS 8) (.int .i64 3) = true := by rfl
  have hv2 : heldR v = some (DataW.atKey (DS 8) (.int .i64 3) (.held Value.nilFunc), ps) := hv
  rw [e1] at hv2
  simp only [heldR, Option.some.injEq, Prod.mk.injEq, DataW.held.injEq] at hv2
  have e3 : Maps.has (DS 8) (.int .i64 3) = Maps.has _ _ := rfl
  rw [hv2.1]
  exact congrArg (fun b => Result.ok (Value.tuple #[fnV 21, .bool b]) _) e2

end Go.Proofs.YtfhcefglefkakaaGreatDoor.Ne
