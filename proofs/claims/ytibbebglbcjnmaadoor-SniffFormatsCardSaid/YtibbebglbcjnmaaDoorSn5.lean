/- Layer 30: what is wrong with a TGA head's bytes, of its sign alone (written by wip/gen/sn5.py). -/
import Derived.Test.YtibbebglbcjnmaaDoorTga3
import Derived.Laws.EntriesVeiled
import Derived.Test.YtibbebglbcjnmaaDoorSn1
namespace Go.Proofs.YtibbebglbcjnmaaDoor.Tg
open Go.ChangeShapes Go.WideShapes Go.ChangeAt Go.RowKit
open Go.Proofs.YtibbebglbcjnmaaDoor.Le Go.Proofs.YtibbebglbcjnmaaDoor.Sr
set_option linter.unusedVariables false

/-- What holds at the head of the loop over the checks. -/
structure WI (W : World) (bb hb : Nat) (s : ByteArray) (w : World) : Prop where
  b : BB bb s w
  h : HB hb s w
  gb : W.grownBy w none
theorem WI.grown {W w w' : World} {bb hb : Nat} {s : ByteArray} (h : WI W bb hb s w) (g : w.grownBy w' none) : WI W bb hb s w' := ⟨h.b.grown g, h.h.grown g, gb_trans h.gb g⟩

def sgC (k : Nat) : Bool := decide (k ≠ 4 ∧ k ≠ 6 ∧ k ≠ 8 ∧ k ≠ 10 ∧ k ≠ 11)
/-- K is the first check of the sign that tells something; 12: there is none. -/
structure CkT (s : ByteArray) (K : Nat) : Prop where
  le : K ≤ 12
  yes : ck s K = true
  sg : sgC K = true
  no : ∀ j, j < K → sgC j = true → ck s j = false

theorem idx_chk0 (bb hb : Nat) (w : World) : (Instr.index 52 (.agg #[.int .i64 2, .int .i64 1, .bool true, .func (.func 40) #[] #[.pointer (some ⟨bb, 0, none⟩)], .int .i64 3, .int .i64 2, .bool true, .func (.func 41) #[] #[.pointer (some ⟨hb, 0, none⟩)], .int .i64 2, .int .i64 1, .bool true, .func (.func 43) #[] #[.pointer (some ⟨hb, 0, none⟩)], .int .i64 3, .int .i64 7, .bool true, .func (.func 45) #[] #[.pointer (some ⟨hb, 0, none⟩)], .int .i64 2, .int .i64 5, .bool false, .func (.func 47) #[] #[.pointer (some ⟨hb, 0, none⟩)], .int .i64 2, .int .i64 12, .bool true, .func (.func 48) #[] #[.pointer (some ⟨hb, 0, none⟩)], .int .i64 3, .int .i64 12, .bool false, .func (.func 49) #[] #[.pointer (some ⟨hb, 0, none⟩)], .int .i64 2, .int .i64 14, .bool true, .func (.func 50) #[] #[.pointer (some ⟨hb, 0, none⟩)], .int .i64 3, .int .i64 14, .bool false, .func (.func 51) #[] #[.pointer (some ⟨hb, 0, none⟩)], .int .i64 3, .int .i64 16, .bool true, .func (.func 52) #[] #[.pointer (some ⟨hb, 0, none⟩)], .int .i64 3, .int .i64 17, .bool false, .func (.func 54) #[] #[.pointer (some ⟨bb, 0, none⟩)], .int .i64 2, .int .i64 17, .bool false, .func (.func 55) #[] #[.pointer (some ⟨hb, 0, none⟩)]]) (.int .i64 0)).run Tryd.prog w = .ok (.agg #[.int .i64 2, .int .i64 1, .bool true, .func (.func 40) #[] #[.pointer (some ⟨bb, 0, none⟩)]]) w := by kernel_rfl
theorem idx_chk1 (bb hb : Nat) (w : World) : (Instr.index 52 (.agg #[.int .i64 2, .int .i64 1, .bool true, .func (.func 40) #[] #[.pointer (some ⟨bb, 0, none⟩)], .int .i64 3, .int .i64 2, .bool true, .func (.func 41) #[] #[.pointer (some ⟨hb, 0, none⟩)], .int .i64 2, .int .i64 1, .bool true, .func (.func 43) #[] #[.pointer (some ⟨hb, 0, none⟩)], .int .i64 3, .int .i64 7, .bool true, .func (.func 45) #[] #[.pointer (some ⟨hb, 0, none⟩)], .int .i64 2, .int .i64 5, .bool false, .func (.func 47) #[] #[.pointer (some ⟨hb, 0, none⟩)], .int .i64 2, .int .i64 12, .bool true, .func (.func 48) #[] #[.pointer (some ⟨hb, 0, none⟩)], .int .i64 3, .int .i64 12, .bool false, .func (.func 49) #[] #[.pointer (some ⟨hb, 0, none⟩)], .int .i64 2, .int .i64 14, .bool true, .func (.func 50) #[] #[.pointer (some ⟨hb, 0, none⟩)], .int .i64 3, .int .i64 14, .bool false, .func (.func 51) #[] #[.pointer (some ⟨hb, 0, none⟩)], .int .i64 3, .int .i64 16, .bool true, .func (.func 52) #[] #[.pointer (some ⟨hb, 0, none⟩)], .int .i64 3, .int .i64 17, .bool false, .func (.func 54) #[] #[.pointer (some ⟨bb, 0, none⟩)], .int .i64 2, .int .i64 17, .bool false, .func (.func 55) #[] #[.pointer (some ⟨hb, 0, none⟩)]]) (.int .i64 1)).run Tryd.prog w = .ok (.agg #[.int .i64 3, .int .i64 2, .bool true, .func (.func 41) #[] #[.pointer (some ⟨hb, 0, none⟩)]]) w := by kernel_rfl
theorem idx_chk2 (bb hb : Nat) (w : World) : (Instr.index 52 (.agg #[.int .i64 2, .int .i64 1, .bool true, .func (.func 40) #[] #[.pointer (some ⟨bb, 0, none⟩)], .int .i64 3, .int .i64 2, .bool true, .func (.func 41) #[] #[.pointer (some ⟨hb, 0, none⟩)], .int .i64 2, .int .i64 1, .bool true, .func (.func 43) #[] #[.pointer (some ⟨hb, 0, none⟩)], .int .i64 3, .int .i64 7, .bool true, .func (.func 45) #[] #[.pointer (some ⟨hb, 0, none⟩)], .int .i64 2, .int .i64 5, .bool false, .func (.func 47) #[] #[.pointer (some ⟨hb, 0, none⟩)], .int .i64 2, .int .i64 12, .bool true, .func (.func 48) #[] #[.pointer (some ⟨hb, 0, none⟩)], .int .i64 3, .int .i64 12, .bool false, .func (.func 49) #[] #[.pointer (some ⟨hb, 0, none⟩)], .int .i64 2, .int .i64 14, .bool true, .func (.func 50) #[] #[.pointer (some ⟨hb, 0, none⟩)], .int .i64 3, .int .i64 14, .bool false, .func (.func 51) #[] #[.pointer (some ⟨hb, 0, none⟩)], .int .i64 3, .int .i64 16, .bool true, .func (.func 52) #[] #[.pointer (some ⟨hb, 0, none⟩)], .int .i64 3, .int .i64 17, .bool false, .func (.func 54) #[] #[.pointer (some ⟨bb, 0, none⟩)], .int .i64 2, .int .i64 17, .bool false, .func (.func 55) #[] #[.pointer (some ⟨hb, 0, none⟩)]]) (.int .i64 2)).run Tryd.prog w = .ok (.agg #[.int .i64 2, .int .i64 1, .bool true, .func (.func 43) #[] #[.pointer (some ⟨hb, 0, none⟩)]]) w := by kernel_rfl
theorem idx_chk3 (bb hb : Nat) (w : World) : (Instr.index 52 (.agg #[.int .i64 2, .int .i64 1, .bool true, .func (.func 40) #[] #[.pointer (some ⟨bb, 0, none⟩)], .int .i64 3, .int .i64 2, .bool true, .func (.func 41) #[] #[.pointer (some ⟨hb, 0, none⟩)], .int .i64 2, .int .i64 1, .bool true, .func (.func 43) #[] #[.pointer (some ⟨hb, 0, none⟩)], .int .i64 3, .int .i64 7, .bool true, .func (.func 45) #[] #[.pointer (some ⟨hb, 0, none⟩)], .int .i64 2, .int .i64 5, .bool false, .func (.func 47) #[] #[.pointer (some ⟨hb, 0, none⟩)], .int .i64 2, .int .i64 12, .bool true, .func (.func 48) #[] #[.pointer (some ⟨hb, 0, none⟩)], .int .i64 3, .int .i64 12, .bool false, .func (.func 49) #[] #[.pointer (some ⟨hb, 0, none⟩)], .int .i64 2, .int .i64 14, .bool true, .func (.func 50) #[] #[.pointer (some ⟨hb, 0, none⟩)], .int .i64 3, .int .i64 14, .bool false, .func (.func 51) #[] #[.pointer (some ⟨hb, 0, none⟩)], .int .i64 3, .int .i64 16, .bool true, .func (.func 52) #[] #[.pointer (some ⟨hb, 0, none⟩)], .int .i64 3, .int .i64 17, .bool false, .func (.func 54) #[] #[.pointer (some ⟨bb, 0, none⟩)], .int .i64 2, .int .i64 17, .bool false, .func (.func 55) #[] #[.pointer (some ⟨hb, 0, none⟩)]]) (.int .i64 3)).run Tryd.prog w = .ok (.agg #[.int .i64 3, .int .i64 7, .bool true, .func (.func 45) #[] #[.pointer (some ⟨hb, 0, none⟩)]]) w := by kernel_rfl
theorem idx_chk4 (bb hb : Nat) (w : World) : (Instr.index 52 (.agg #[.int .i64 2, .int .i64 1, .bool true, .func (.func 40) #[] #[.pointer (some ⟨bb, 0, none⟩)], .int .i64 3, .int .i64 2, .bool true, .func (.func 41) #[] #[.pointer (some ⟨hb, 0, none⟩)], .int .i64 2, .int .i64 1, .bool true, .func (.func 43) #[] #[.pointer (some ⟨hb, 0, none⟩)], .int .i64 3, .int .i64 7, .bool true, .func (.func 45) #[] #[.pointer (some ⟨hb, 0, none⟩)], .int .i64 2, .int .i64 5, .bool false, .func (.func 47) #[] #[.pointer (some ⟨hb, 0, none⟩)], .int .i64 2, .int .i64 12, .bool true, .func (.func 48) #[] #[.pointer (some ⟨hb, 0, none⟩)], .int .i64 3, .int .i64 12, .bool false, .func (.func 49) #[] #[.pointer (some ⟨hb, 0, none⟩)], .int .i64 2, .int .i64 14, .bool true, .func (.func 50) #[] #[.pointer (some ⟨hb, 0, none⟩)], .int .i64 3, .int .i64 14, .bool false, .func (.func 51) #[] #[.pointer (some ⟨hb, 0, none⟩)], .int .i64 3, .int .i64 16, .bool true, .func (.func 52) #[] #[.pointer (some ⟨hb, 0, none⟩)], .int .i64 3, .int .i64 17, .bool false, .func (.func 54) #[] #[.pointer (some ⟨bb, 0, none⟩)], .int .i64 2, .int .i64 17, .bool false, .func (.func 55) #[] #[.pointer (some ⟨hb, 0, none⟩)]]) (.int .i64 4)).run Tryd.prog w = .ok (.agg #[.int .i64 2, .int .i64 5, .bool false, .func (.func 47) #[] #[.pointer (some ⟨hb, 0, none⟩)]]) w := by kernel_rfl
theorem idx_chk5 (bb hb : Nat) (w : World) : (Instr.index 52 (.agg #[.int .i64 2, .int .i64 1, .bool true, .func (.func 40) #[] #[.pointer (some ⟨bb, 0, none⟩)], .int .i64 3, .int .i64 2, .bool true, .func (.func 41) #[] #[.pointer (some ⟨hb, 0, none⟩)], .int .i64 2, .int .i64 1, .bool true, .func (.func 43) #[] #[.pointer (some ⟨hb, 0, none⟩)], .int .i64 3, .int .i64 7, .bool true, .func (.func 45) #[] #[.pointer (some ⟨hb, 0, none⟩)], .int .i64 2, .int .i64 5, .bool false, .func (.func 47) #[] #[.pointer (some ⟨hb, 0, none⟩)], .int .i64 2, .int .i64 12, .bool true, .func (.func 48) #[] #[.pointer (some ⟨hb, 0, none⟩)], .int .i64 3, .int .i64 12, .bool false, .func (.func 49) #[] #[.pointer (some ⟨hb, 0, none⟩)], .int .i64 2, .int .i64 14, .bool true, .func (.func 50) #[] #[.pointer (some ⟨hb, 0, none⟩)], .int .i64 3, .int .i64 14, .bool false, .func (.func 51) #[] #[.pointer (some ⟨hb, 0, none⟩)], .int .i64 3, .int .i64 16, .bool true, .func (.func 52) #[] #[.pointer (some ⟨hb, 0, none⟩)], .int .i64 3, .int .i64 17, .bool false, .func (.func 54) #[] #[.pointer (some ⟨bb, 0, none⟩)], .int .i64 2, .int .i64 17, .bool false, .func (.func 55) #[] #[.pointer (some ⟨hb, 0, none⟩)]]) (.int .i64 5)).run Tryd.prog w = .ok (.agg #[.int .i64 2, .int .i64 12, .bool true, .func (.func 48) #[] #[.pointer (some ⟨hb, 0, none⟩)]]) w := by kernel_rfl
theorem idx_chk6 (bb hb : Nat) (w : World) : (Instr.index 52 (.agg #[.int .i64 2, .int .i64 1, .bool true, .func (.func 40) #[] #[.pointer (some ⟨bb, 0, none⟩)], .int .i64 3, .int .i64 2, .bool true, .func (.func 41) #[] #[.pointer (some ⟨hb, 0, none⟩)], .int .i64 2, .int .i64 1, .bool true, .func (.func 43) #[] #[.pointer (some ⟨hb, 0, none⟩)], .int .i64 3, .int .i64 7, .bool true, .func (.func 45) #[] #[.pointer (some ⟨hb, 0, none⟩)], .int .i64 2, .int .i64 5, .bool false, .func (.func 47) #[] #[.pointer (some ⟨hb, 0, none⟩)], .int .i64 2, .int .i64 12, .bool true, .func (.func 48) #[] #[.pointer (some ⟨hb, 0, none⟩)], .int .i64 3, .int .i64 12, .bool false, .func (.func 49) #[] #[.pointer (some ⟨hb, 0, none⟩)], .int .i64 2, .int .i64 14, .bool true, .func (.func 50) #[] #[.pointer (some ⟨hb, 0, none⟩)], .int .i64 3, .int .i64 14, .bool false, .func (.func 51) #[] #[.pointer (some ⟨hb, 0, none⟩)], .int .i64 3, .int .i64 16, .bool true, .func (.func 52) #[] #[.pointer (some ⟨hb, 0, none⟩)], .int .i64 3, .int .i64 17, .bool false, .func (.func 54) #[] #[.pointer (some ⟨bb, 0, none⟩)], .int .i64 2, .int .i64 17, .bool false, .func (.func 55) #[] #[.pointer (some ⟨hb, 0, none⟩)]]) (.int .i64 6)).run Tryd.prog w = .ok (.agg #[.int .i64 3, .int .i64 12, .bool false, .func (.func 49) #[] #[.pointer (some ⟨hb, 0, none⟩)]]) w := by kernel_rfl
theorem idx_chk7 (bb hb : Nat) (w : World) : (Instr.index 52 (.agg #[.int .i64 2, .int .i64 1, .bool true, .func (.func 40) #[] #[.pointer (some ⟨bb, 0, none⟩)], .int .i64 3, .int .i64 2, .bool true, .func (.func 41) #[] #[.pointer (some ⟨hb, 0, none⟩)], .int .i64 2, .int .i64 1, .bool true, .func (.func 43) #[] #[.pointer (some ⟨hb, 0, none⟩)], .int .i64 3, .int .i64 7, .bool true, .func (.func 45) #[] #[.pointer (some ⟨hb, 0, none⟩)], .int .i64 2, .int .i64 5, .bool false, .func (.func 47) #[] #[.pointer (some ⟨hb, 0, none⟩)], .int .i64 2, .int .i64 12, .bool true, .func (.func 48) #[] #[.pointer (some ⟨hb, 0, none⟩)], .int .i64 3, .int .i64 12, .bool false, .func (.func 49) #[] #[.pointer (some ⟨hb, 0, none⟩)], .int .i64 2, .int .i64 14, .bool true, .func (.func 50) #[] #[.pointer (some ⟨hb, 0, none⟩)], .int .i64 3, .int .i64 14, .bool false, .func (.func 51) #[] #[.pointer (some ⟨hb, 0, none⟩)], .int .i64 3, .int .i64 16, .bool true, .func (.func 52) #[] #[.pointer (some ⟨hb, 0, none⟩)], .int .i64 3, .int .i64 17, .bool false, .func (.func 54) #[] #[.pointer (some ⟨bb, 0, none⟩)], .int .i64 2, .int .i64 17, .bool false, .func (.func 55) #[] #[.pointer (some ⟨hb, 0, none⟩)]]) (.int .i64 7)).run Tryd.prog w = .ok (.agg #[.int .i64 2, .int .i64 14, .bool true, .func (.func 50) #[] #[.pointer (some ⟨hb, 0, none⟩)]]) w := by kernel_rfl
theorem idx_chk8 (bb hb : Nat) (w : World) : (Instr.index 52 (.agg #[.int .i64 2, .int .i64 1, .bool true, .func (.func 40) #[] #[.pointer (some ⟨bb, 0, none⟩)], .int .i64 3, .int .i64 2, .bool true, .func (.func 41) #[] #[.pointer (some ⟨hb, 0, none⟩)], .int .i64 2, .int .i64 1, .bool true, .func (.func 43) #[] #[.pointer (some ⟨hb, 0, none⟩)], .int .i64 3, .int .i64 7, .bool true, .func (.func 45) #[] #[.pointer (some ⟨hb, 0, none⟩)], .int .i64 2, .int .i64 5, .bool false, .func (.func 47) #[] #[.pointer (some ⟨hb, 0, none⟩)], .int .i64 2, .int .i64 12, .bool true, .func (.func 48) #[] #[.pointer (some ⟨hb, 0, none⟩)], .int .i64 3, .int .i64 12, .bool false, .func (.func 49) #[] #[.pointer (some ⟨hb, 0, none⟩)], .int .i64 2, .int .i64 14, .bool true, .func (.func 50) #[] #[.pointer (some ⟨hb, 0, none⟩)], .int .i64 3, .int .i64 14, .bool false, .func (.func 51) #[] #[.pointer (some ⟨hb, 0, none⟩)], .int .i64 3, .int .i64 16, .bool true, .func (.func 52) #[] #[.pointer (some ⟨hb, 0, none⟩)], .int .i64 3, .int .i64 17, .bool false, .func (.func 54) #[] #[.pointer (some ⟨bb, 0, none⟩)], .int .i64 2, .int .i64 17, .bool false, .func (.func 55) #[] #[.pointer (some ⟨hb, 0, none⟩)]]) (.int .i64 8)).run Tryd.prog w = .ok (.agg #[.int .i64 3, .int .i64 14, .bool false, .func (.func 51) #[] #[.pointer (some ⟨hb, 0, none⟩)]]) w := by kernel_rfl
theorem idx_chk9 (bb hb : Nat) (w : World) : (Instr.index 52 (.agg #[.int .i64 2, .int .i64 1, .bool true, .func (.func 40) #[] #[.pointer (some ⟨bb, 0, none⟩)], .int .i64 3, .int .i64 2, .bool true, .func (.func 41) #[] #[.pointer (some ⟨hb, 0, none⟩)], .int .i64 2, .int .i64 1, .bool true, .func (.func 43) #[] #[.pointer (some ⟨hb, 0, none⟩)], .int .i64 3, .int .i64 7, .bool true, .func (.func 45) #[] #[.pointer (some ⟨hb, 0, none⟩)], .int .i64 2, .int .i64 5, .bool false, .func (.func 47) #[] #[.pointer (some ⟨hb, 0, none⟩)], .int .i64 2, .int .i64 12, .bool true, .func (.func 48) #[] #[.pointer (some ⟨hb, 0, none⟩)], .int .i64 3, .int .i64 12, .bool false, .func (.func 49) #[] #[.pointer (some ⟨hb, 0, none⟩)], .int .i64 2, .int .i64 14, .bool true, .func (.func 50) #[] #[.pointer (some ⟨hb, 0, none⟩)], .int .i64 3, .int .i64 14, .bool false, .func (.func 51) #[] #[.pointer (some ⟨hb, 0, none⟩)], .int .i64 3, .int .i64 16, .bool true, .func (.func 52) #[] #[.pointer (some ⟨hb, 0, none⟩)], .int .i64 3, .int .i64 17, .bool false, .func (.func 54) #[] #[.pointer (some ⟨bb, 0, none⟩)], .int .i64 2, .int .i64 17, .bool false, .func (.func 55) #[] #[.pointer (some ⟨hb, 0, none⟩)]]) (.int .i64 9)).run Tryd.prog w = .ok (.agg #[.int .i64 3, .int .i64 16, .bool true, .func (.func 52) #[] #[.pointer (some ⟨hb, 0, none⟩)]]) w := by kernel_rfl
theorem idx_chk10 (bb hb : Nat) (w : World) : (Instr.index 52 (.agg #[.int .i64 2, .int .i64 1, .bool true, .func (.func 40) #[] #[.pointer (some ⟨bb, 0, none⟩)], .int .i64 3, .int .i64 2, .bool true, .func (.func 41) #[] #[.pointer (some ⟨hb, 0, none⟩)], .int .i64 2, .int .i64 1, .bool true, .func (.func 43) #[] #[.pointer (some ⟨hb, 0, none⟩)], .int .i64 3, .int .i64 7, .bool true, .func (.func 45) #[] #[.pointer (some ⟨hb, 0, none⟩)], .int .i64 2, .int .i64 5, .bool false, .func (.func 47) #[] #[.pointer (some ⟨hb, 0, none⟩)], .int .i64 2, .int .i64 12, .bool true, .func (.func 48) #[] #[.pointer (some ⟨hb, 0, none⟩)], .int .i64 3, .int .i64 12, .bool false, .func (.func 49) #[] #[.pointer (some ⟨hb, 0, none⟩)], .int .i64 2, .int .i64 14, .bool true, .func (.func 50) #[] #[.pointer (some ⟨hb, 0, none⟩)], .int .i64 3, .int .i64 14, .bool false, .func (.func 51) #[] #[.pointer (some ⟨hb, 0, none⟩)], .int .i64 3, .int .i64 16, .bool true, .func (.func 52) #[] #[.pointer (some ⟨hb, 0, none⟩)], .int .i64 3, .int .i64 17, .bool false, .func (.func 54) #[] #[.pointer (some ⟨bb, 0, none⟩)], .int .i64 2, .int .i64 17, .bool false, .func (.func 55) #[] #[.pointer (some ⟨hb, 0, none⟩)]]) (.int .i64 10)).run Tryd.prog w = .ok (.agg #[.int .i64 3, .int .i64 17, .bool false, .func (.func 54) #[] #[.pointer (some ⟨bb, 0, none⟩)]]) w := by kernel_rfl
theorem idx_chk11 (bb hb : Nat) (w : World) : (Instr.index 52 (.agg #[.int .i64 2, .int .i64 1, .bool true, .func (.func 40) #[] #[.pointer (some ⟨bb, 0, none⟩)], .int .i64 3, .int .i64 2, .bool true, .func (.func 41) #[] #[.pointer (some ⟨hb, 0, none⟩)], .int .i64 2, .int .i64 1, .bool true, .func (.func 43) #[] #[.pointer (some ⟨hb, 0, none⟩)], .int .i64 3, .int .i64 7, .bool true, .func (.func 45) #[] #[.pointer (some ⟨hb, 0, none⟩)], .int .i64 2, .int .i64 5, .bool false, .func (.func 47) #[] #[.pointer (some ⟨hb, 0, none⟩)], .int .i64 2, .int .i64 12, .bool true, .func (.func 48) #[] #[.pointer (some ⟨hb, 0, none⟩)], .int .i64 3, .int .i64 12, .bool false, .func (.func 49) #[] #[.pointer (some ⟨hb, 0, none⟩)], .int .i64 2, .int .i64 14, .bool true, .func (.func 50) #[] #[.pointer (some ⟨hb, 0, none⟩)], .int .i64 3, .int .i64 14, .bool false, .func (.func 51) #[] #[.pointer (some ⟨hb, 0, none⟩)], .int .i64 3, .int .i64 16, .bool true, .func (.func 52) #[] #[.pointer (some ⟨hb, 0, none⟩)], .int .i64 3, .int .i64 17, .bool false, .func (.func 54) #[] #[.pointer (some ⟨bb, 0, none⟩)], .int .i64 2, .int .i64 17, .bool false, .func (.func 55) #[] #[.pointer (some ⟨hb, 0, none⟩)]]) (.int .i64 11)).run Tryd.prog w = .ok (.agg #[.int .i64 2, .int .i64 17, .bool false, .func (.func 55) #[] #[.pointer (some ⟨hb, 0, none⟩)]]) w := by kernel_rfl

set_option maxRecDepth 100000 in
set_option maxHeartbeats 8000000 in
theorem wrongT_calls (s : ByteArray) (K : Nat) (W : World) (h18 : 18 ≤ s.size) (hm : s.size ≤ 9223372036854775807) (C : CkT s K) :
    Calls Tryd.prog 32 #[.string s, .bool true] W fun e w' => e = .returned (.tuple #[.int .i64 (kdK K), .int .i64 (plK K)]) ∧ W.grownBy w' none := by
  have KF := fun u => fields_calls s u h18 hm
  unfold hA at KF
  have KF := Lib.hid KF
  have HC := Lib.hid C
  have H18 := Lib.hid h18
  have HM := Lib.hid hm
  have hK := C.le
  clear C h18 hm
  obtain ⟨kk, ekk⟩ : ∃ x, kdK K = x := ⟨_, rfl⟩
  obtain ⟨pp, epp⟩ : ∃ x, plK K = x := ⟨_, rfl⟩
  rw [ekk, epp]
  have EK := Lib.hid ekk
  have EP := Lib.hid epp
  clear ekk epp
  go_enter Tryd.func32, Tryd.ntmps32
  go_wp2_with fail
  refine (KF.out _).mono ?_
  rintro e w1 ⟨rfl, g1⟩
  have B1 : BB W.heap.size s w1 := old1 g1 (by simp)
  have I1 : WI W W.heap.size w1.heap.size s (w1.alloc (.cells #[.int .i64 (bn s 0), .bool (mpB s), .int .i64 (bn s 2), .int .i64 (fst s), .int .i64 (cnt s), .int .i64 (ent s), .int .i64 (wd s 12), .int .i64 (wd s 14), .int .i64 (bn s 16), .int .i64 (alp s), .bool (lft s), .bool (tpp s)] 47)) := ⟨blk_al B1 _, blk_at, gb_trans (gb_trans (World.grownBy_alloc _ _ _) g1) (World.grownBy_alloc _ _ _)⟩
  have HI1 := Lib.hid I1
  clear g1 B1 I1 KF
  go_wp2_with fail
  generalize w1.alloc (.cells #[.int .i64 (bn s 0), .bool (mpB s), .int .i64 (bn s 2), .int .i64 (fst s), .int .i64 (cnt s), .int .i64 (ent s), .int .i64 (wd s 12), .int .i64 (wd s 14), .int .i64 (bn s 16), .int .i64 (alp s), .bool (lft s), .bool (tpp s)] 47) = w2 at HI1 ⊢
  generalize w1.heap.size = hb at HI1 ⊢
  generalize W.heap.size = bb at HI1 ⊢
  go_loopg [36] 13 (fun q iv wr => ∃ (k : Nat), k ≤ K ∧ q = 13 - k ∧ iv = .int .i64 k ∧ WI W bb hb s wr)
  case atStart => exact ⟨0, by omega, rfl, rfl, HI1.out⟩
  case round =>
    obtain ⟨k, hk, rfl, rfl, J⟩ := hrel
    have HJ := Lib.hid J
    clear J HI1
    obtain rfl | rfl | rfl | rfl | rfl | rfl | rfl | rfl | rfl | rfl | rfl | rfl | rfl : k = 0 ∨ k = 1 ∨ k = 2 ∨ k = 3 ∨ k = 4 ∨ k = 5 ∨ k = 6 ∨ k = 7 ∨ k = 8 ∨ k = 9 ∨ k = 10 ∨ k = 11 ∨ k = 12 := by omega
    · by_cases hKk : K = 0
      · have hck : ck s 0 = true := hKk ▸ HC.out.yes
        have KC := fun u (I : WI W bb hb s u) => cl0 bb s u I.b H18.out HM.out
        rw [hck] at KC
        have KC := Lib.hid KC
        have E1 := Lib.hid (show kk = 2 from by rw [← EK.out, hKk]; rfl)
        have E2 := Lib.hid (show pp = 1 from by rw [← EP.out, hKk]; rfl)
        have hidx := idx_chk0 bb hb wr
        clear hck hKk hk
        go_wp2_with fail
        refine (KC.out _ (HJ.out.grown (World.grownBy_alloc _ _ _))).mono ?_
        rintro e w3 ⟨rfl, g3⟩
        have B3 := old1 g3 (by simp)
        have q0 := blk_cell B3 0
        have q1 := blk_cell B3 1
        simp only [List.getElem?_toArray, List.getElem?_cons_succ, List.getElem?_cons_zero] at q0 q1
        have G3 := Lib.hid (gb_trans (gb_trans HJ.out.gb (World.grownBy_alloc _ _ _)) g3)
        clear g3 B3 KC HJ
        go_wp2_with fail
        go_quiet (fail)
        go_wp2
        go_ret2
        exact ⟨by have h1 := E1.out; have h2 := E2.out; subst h1; subst h2; rfl, gb_trans G3.out (gb_drewN _ _ _)⟩
      · have hck : ck s 0 = false := HC.out.no 0 (by omega) rfl
        have KC := fun u (I : WI W bb hb s u) => cl0 bb s u I.b H18.out HM.out
        rw [hck] at KC
        have KC := Lib.hid KC
        have hidx := idx_chk0 bb hb wr
        clear hck
        go_wp2_with fail
        refine (KC.out _ (HJ.out.grown (World.grownBy_alloc _ _ _))).mono ?_
        rintro e w3 ⟨rfl, g3⟩
        have HJ3 := Lib.hid ((HJ.out.grown (World.grownBy_alloc _ _ _)).grown g3)
        clear g3 KC
        go_wp2
        go_roundg (13 - 1)
        case measure => omega
        case rel => exact ⟨1, by omega, rfl, rfl, HJ3.out⟩
    · by_cases hKk : K = 1
      · have hck : ck s 1 = true := hKk ▸ HC.out.yes
        have KC := fun u (I : WI W bb hb s u) => cl1 hb s u I.h
        rw [hck] at KC
        have KC := Lib.hid KC
        have E1 := Lib.hid (show kk = 3 from by rw [← EK.out, hKk]; rfl)
        have E2 := Lib.hid (show pp = 2 from by rw [← EP.out, hKk]; rfl)
        have hidx := idx_chk1 bb hb wr
        clear hck hKk hk
        go_wp2_with fail
        refine (KC.out _ (HJ.out.grown (World.grownBy_alloc _ _ _))).mono ?_
        rintro e w3 ⟨rfl, g3⟩
        have B3 := old1 g3 (by simp)
        have q0 := blk_cell B3 0
        have q1 := blk_cell B3 1
        simp only [List.getElem?_toArray, List.getElem?_cons_succ, List.getElem?_cons_zero] at q0 q1
        have G3 := Lib.hid (gb_trans (gb_trans HJ.out.gb (World.grownBy_alloc _ _ _)) g3)
        clear g3 B3 KC HJ
        go_wp2_with fail
        go_quiet (fail)
        go_wp2
        go_ret2
        exact ⟨by have h1 := E1.out; have h2 := E2.out; subst h1; subst h2; rfl, gb_trans G3.out (gb_drewN _ _ _)⟩
      · have hck : ck s 1 = false := HC.out.no 1 (by omega) rfl
        have KC := fun u (I : WI W bb hb s u) => cl1 hb s u I.h
        rw [hck] at KC
        have KC := Lib.hid KC
        have hidx := idx_chk1 bb hb wr
        clear hck
        go_wp2_with fail
        refine (KC.out _ (HJ.out.grown (World.grownBy_alloc _ _ _))).mono ?_
        rintro e w3 ⟨rfl, g3⟩
        have HJ3 := Lib.hid ((HJ.out.grown (World.grownBy_alloc _ _ _)).grown g3)
        clear g3 KC
        go_wp2
        go_roundg (13 - 2)
        case measure => omega
        case rel => exact ⟨2, by omega, rfl, rfl, HJ3.out⟩
    · by_cases hKk : K = 2
      · have hck : ck s 2 = true := hKk ▸ HC.out.yes
        have KC := fun u (I : WI W bb hb s u) => cl2 hb s u I.h
        rw [hck] at KC
        have KC := Lib.hid KC
        have E1 := Lib.hid (show kk = 2 from by rw [← EK.out, hKk]; rfl)
        have E2 := Lib.hid (show pp = 1 from by rw [← EP.out, hKk]; rfl)
        have hidx := idx_chk2 bb hb wr
        clear hck hKk hk
        go_wp2_with fail
        refine (KC.out _ (HJ.out.grown (World.grownBy_alloc _ _ _))).mono ?_
        rintro e w3 ⟨rfl, g3⟩
        have B3 := old1 g3 (by simp)
        have q0 := blk_cell B3 0
        have q1 := blk_cell B3 1
        simp only [List.getElem?_toArray, List.getElem?_cons_succ, List.getElem?_cons_zero] at q0 q1
        have G3 := Lib.hid (gb_trans (gb_trans HJ.out.gb (World.grownBy_alloc _ _ _)) g3)
        clear g3 B3 KC HJ
        go_wp2_with fail
        go_quiet (fail)
        go_wp2
        go_ret2
        exact ⟨by have h1 := E1.out; have h2 := E2.out; subst h1; subst h2; rfl, gb_trans G3.out (gb_drewN _ _ _)⟩
      · have hck : ck s 2 = false := HC.out.no 2 (by omega) rfl
        have KC := fun u (I : WI W bb hb s u) => cl2 hb s u I.h
        rw [hck] at KC
        have KC := Lib.hid KC
        have hidx := idx_chk2 bb hb wr
        clear hck
        go_wp2_with fail
        refine (KC.out _ (HJ.out.grown (World.grownBy_alloc _ _ _))).mono ?_
        rintro e w3 ⟨rfl, g3⟩
        have HJ3 := Lib.hid ((HJ.out.grown (World.grownBy_alloc _ _ _)).grown g3)
        clear g3 KC
        go_wp2
        go_roundg (13 - 3)
        case measure => omega
        case rel => exact ⟨3, by omega, rfl, rfl, HJ3.out⟩
    · by_cases hKk : K = 3
      · have hck : ck s 3 = true := hKk ▸ HC.out.yes
        have KC := fun u (I : WI W bb hb s u) => cl3 hb s u I.h
        rw [hck] at KC
        have KC := Lib.hid KC
        have E1 := Lib.hid (show kk = 3 from by rw [← EK.out, hKk]; rfl)
        have E2 := Lib.hid (show pp = 7 from by rw [← EP.out, hKk]; rfl)
        have hidx := idx_chk3 bb hb wr
        clear hck hKk hk
        go_wp2_with fail
        refine (KC.out _ (HJ.out.grown (World.grownBy_alloc _ _ _))).mono ?_
        rintro e w3 ⟨rfl, g3⟩
        have B3 := old1 g3 (by simp)
        have q0 := blk_cell B3 0
        have q1 := blk_cell B3 1
        simp only [List.getElem?_toArray, List.getElem?_cons_succ, List.getElem?_cons_zero] at q0 q1
        have G3 := Lib.hid (gb_trans (gb_trans HJ.out.gb (World.grownBy_alloc _ _ _)) g3)
        clear g3 B3 KC HJ
        go_wp2_with fail
        go_quiet (fail)
        go_wp2
        go_ret2
        exact ⟨by have h1 := E1.out; have h2 := E2.out; subst h1; subst h2; rfl, gb_trans G3.out (gb_drewN _ _ _)⟩
      · have hck : ck s 3 = false := HC.out.no 3 (by omega) rfl
        have KC := fun u (I : WI W bb hb s u) => cl3 hb s u I.h
        rw [hck] at KC
        have KC := Lib.hid KC
        have hidx := idx_chk3 bb hb wr
        clear hck
        go_wp2_with fail
        refine (KC.out _ (HJ.out.grown (World.grownBy_alloc _ _ _))).mono ?_
        rintro e w3 ⟨rfl, g3⟩
        have HJ3 := Lib.hid ((HJ.out.grown (World.grownBy_alloc _ _ _)).grown g3)
        clear g3 KC
        go_wp2
        go_roundg (13 - 4)
        case measure => omega
        case rel => exact ⟨4, by omega, rfl, rfl, HJ3.out⟩
    · have hKk : K ≠ 4 := fun e => by have h := HC.out.sg; rw [e] at h; exact absurd h (by decide)
      have hidx := idx_chk4 bb hb wr
      have HJ3 := Lib.hid (HJ.out.grown (World.grownBy_alloc _ (.cells #[.int .i64 (2), .int .i64 (5), .bool false, .func (.func 47) #[] #[.pointer (some ⟨hb, 0, none⟩)]] 49) none))
      go_wp2
      go_roundg (13 - 5)
      case measure => omega
      case rel => exact ⟨5, by omega, rfl, rfl, HJ3.out⟩
    · by_cases hKk : K = 5
      · have hck : ck s 5 = true := hKk ▸ HC.out.yes
        have KC := fun u (I : WI W bb hb s u) => cl5 hb s u I.h
        rw [hck] at KC
        have KC := Lib.hid KC
        have E1 := Lib.hid (show kk = 2 from by rw [← EK.out, hKk]; rfl)
        have E2 := Lib.hid (show pp = 12 from by rw [← EP.out, hKk]; rfl)
        have hidx := idx_chk5 bb hb wr
        clear hck hKk hk
        go_wp2_with fail
        refine (KC.out _ (HJ.out.grown (World.grownBy_alloc _ _ _))).mono ?_
        rintro e w3 ⟨rfl, g3⟩
        have B3 := old1 g3 (by simp)
        have q0 := blk_cell B3 0
        have q1 := blk_cell B3 1
        simp only [List.getElem?_toArray, List.getElem?_cons_succ, List.getElem?_cons_zero] at q0 q1
        have G3 := Lib.hid (gb_trans (gb_trans HJ.out.gb (World.grownBy_alloc _ _ _)) g3)
        clear g3 B3 KC HJ
        go_wp2_with fail
        go_quiet (fail)
        go_wp2
        go_ret2
        exact ⟨by have h1 := E1.out; have h2 := E2.out; subst h1; subst h2; rfl, gb_trans G3.out (gb_drewN _ _ _)⟩
      · have hck : ck s 5 = false := HC.out.no 5 (by omega) rfl
        have KC := fun u (I : WI W bb hb s u) => cl5 hb s u I.h
        rw [hck] at KC
        have KC := Lib.hid KC
        have hidx := idx_chk5 bb hb wr
        clear hck
        go_wp2_with fail
        refine (KC.out _ (HJ.out.grown (World.grownBy_alloc _ _ _))).mono ?_
        rintro e w3 ⟨rfl, g3⟩
        have HJ3 := Lib.hid ((HJ.out.grown (World.grownBy_alloc _ _ _)).grown g3)
        clear g3 KC
        go_wp2
        go_roundg (13 - 6)
        case measure => omega
        case rel => exact ⟨6, by omega, rfl, rfl, HJ3.out⟩
    · have hKk : K ≠ 6 := fun e => by have h := HC.out.sg; rw [e] at h; exact absurd h (by decide)
      have hidx := idx_chk6 bb hb wr
      have HJ3 := Lib.hid (HJ.out.grown (World.grownBy_alloc _ (.cells #[.int .i64 (3), .int .i64 (12), .bool false, .func (.func 49) #[] #[.pointer (some ⟨hb, 0, none⟩)]] 49) none))
      go_wp2
      go_roundg (13 - 7)
      case measure => omega
      case rel => exact ⟨7, by omega, rfl, rfl, HJ3.out⟩
    · by_cases hKk : K = 7
      · have hck : ck s 7 = true := hKk ▸ HC.out.yes
        have KC := fun u (I : WI W bb hb s u) => cl7 hb s u I.h
        rw [hck] at KC
        have KC := Lib.hid KC
        have E1 := Lib.hid (show kk = 2 from by rw [← EK.out, hKk]; rfl)
        have E2 := Lib.hid (show pp = 14 from by rw [← EP.out, hKk]; rfl)
        have hidx := idx_chk7 bb hb wr
        clear hck hKk hk
        go_wp2_with fail
        refine (KC.out _ (HJ.out.grown (World.grownBy_alloc _ _ _))).mono ?_
        rintro e w3 ⟨rfl, g3⟩
        have B3 := old1 g3 (by simp)
        have q0 := blk_cell B3 0
        have q1 := blk_cell B3 1
        simp only [List.getElem?_toArray, List.getElem?_cons_succ, List.getElem?_cons_zero] at q0 q1
        have G3 := Lib.hid (gb_trans (gb_trans HJ.out.gb (World.grownBy_alloc _ _ _)) g3)
        clear g3 B3 KC HJ
        go_wp2_with fail
        go_quiet (fail)
        go_wp2
        go_ret2
        exact ⟨by have h1 := E1.out; have h2 := E2.out; subst h1; subst h2; rfl, gb_trans G3.out (gb_drewN _ _ _)⟩
      · have hck : ck s 7 = false := HC.out.no 7 (by omega) rfl
        have KC := fun u (I : WI W bb hb s u) => cl7 hb s u I.h
        rw [hck] at KC
        have KC := Lib.hid KC
        have hidx := idx_chk7 bb hb wr
        clear hck
        go_wp2_with fail
        refine (KC.out _ (HJ.out.grown (World.grownBy_alloc _ _ _))).mono ?_
        rintro e w3 ⟨rfl, g3⟩
        have HJ3 := Lib.hid ((HJ.out.grown (World.grownBy_alloc _ _ _)).grown g3)
        clear g3 KC
        go_wp2
        go_roundg (13 - 8)
        case measure => omega
        case rel => exact ⟨8, by omega, rfl, rfl, HJ3.out⟩
    · have hKk : K ≠ 8 := fun e => by have h := HC.out.sg; rw [e] at h; exact absurd h (by decide)
      have hidx := idx_chk8 bb hb wr
      have HJ3 := Lib.hid (HJ.out.grown (World.grownBy_alloc _ (.cells #[.int .i64 (3), .int .i64 (14), .bool false, .func (.func 51) #[] #[.pointer (some ⟨hb, 0, none⟩)]] 49) none))
      go_wp2
      go_roundg (13 - 9)
      case measure => omega
      case rel => exact ⟨9, by omega, rfl, rfl, HJ3.out⟩
    · by_cases hKk : K = 9
      · have hck : ck s 9 = true := hKk ▸ HC.out.yes
        have KC := fun u (I : WI W bb hb s u) => cl9 hb s u I.h
        rw [hck] at KC
        have KC := Lib.hid KC
        have E1 := Lib.hid (show kk = 3 from by rw [← EK.out, hKk]; rfl)
        have E2 := Lib.hid (show pp = 16 from by rw [← EP.out, hKk]; rfl)
        have hidx := idx_chk9 bb hb wr
        clear hck hKk hk
        go_wp2_with fail
        refine (KC.out _ (HJ.out.grown (World.grownBy_alloc _ _ _))).mono ?_
        rintro e w3 ⟨rfl, g3⟩
        have B3 := old1 g3 (by simp)
        have q0 := blk_cell B3 0
        have q1 := blk_cell B3 1
        simp only [List.getElem?_toArray, List.getElem?_cons_succ, List.getElem?_cons_zero] at q0 q1
        have G3 := Lib.hid (gb_trans (gb_trans HJ.out.gb (World.grownBy_alloc _ _ _)) g3)
        clear g3 B3 KC HJ
        go_wp2_with fail
        go_quiet (fail)
        go_wp2
        go_ret2
        exact ⟨by have h1 := E1.out; have h2 := E2.out; subst h1; subst h2; rfl, gb_trans G3.out (gb_drewN _ _ _)⟩
      · have hck : ck s 9 = false := HC.out.no 9 (by omega) rfl
        have KC := fun u (I : WI W bb hb s u) => cl9 hb s u I.h
        rw [hck] at KC
        have KC := Lib.hid KC
        have hidx := idx_chk9 bb hb wr
        clear hck
        go_wp2_with fail
        refine (KC.out _ (HJ.out.grown (World.grownBy_alloc _ _ _))).mono ?_
        rintro e w3 ⟨rfl, g3⟩
        have HJ3 := Lib.hid ((HJ.out.grown (World.grownBy_alloc _ _ _)).grown g3)
        clear g3 KC
        go_wp2
        go_roundg (13 - 10)
        case measure => omega
        case rel => exact ⟨10, by omega, rfl, rfl, HJ3.out⟩
    · have hKk : K ≠ 10 := fun e => by have h := HC.out.sg; rw [e] at h; exact absurd h (by decide)
      have hidx := idx_chk10 bb hb wr
      have HJ3 := Lib.hid (HJ.out.grown (World.grownBy_alloc _ (.cells #[.int .i64 (3), .int .i64 (17), .bool false, .func (.func 54) #[] #[.pointer (some ⟨bb, 0, none⟩)]] 49) none))
      go_wp2
      go_roundg (13 - 11)
      case measure => omega
      case rel => exact ⟨11, by omega, rfl, rfl, HJ3.out⟩
    · have hKk : K ≠ 11 := fun e => by have h := HC.out.sg; rw [e] at h; exact absurd h (by decide)
      have hidx := idx_chk11 bb hb wr
      have HJ3 := Lib.hid (HJ.out.grown (World.grownBy_alloc _ (.cells #[.int .i64 (2), .int .i64 (17), .bool false, .func (.func 55) #[] #[.pointer (some ⟨hb, 0, none⟩)]] 49) none))
      go_wp2
      go_roundg (13 - 12)
      case measure => omega
      case rel => exact ⟨12, by omega, rfl, rfl, HJ3.out⟩
    · obtain rfl : K = 12 := by omega
      have E1 := Lib.hid (show kk = 0 from by rw [← EK.out]; rfl)
      have E2 := Lib.hid (show pp = 0 from by rw [← EP.out]; rfl)
      go_wp2
      go_ret2
      exact ⟨by have h1 := E1.out; have h2 := E2.out; subst h1; subst h2; rfl, HJ.out.gb⟩

end Go.Proofs.YtibbebglbcjnmaaDoor.Tg
