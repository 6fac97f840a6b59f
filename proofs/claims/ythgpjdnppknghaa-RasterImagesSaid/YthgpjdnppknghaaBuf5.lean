/- Package buf: freed, handed over, made. -/
import Derived.Test.YthgpjdnppknghaaBuf4
namespace Go.Proofs.Ythgpjdnppknghaa.Bu
open Go.ChangeShapes Go.WideShapes Go.ChangeAt Go.RowKit
open Go.Proofs.Ythgpjdnppknghaa.Le
set_option linter.unusedVariables false

/-- The Once, used up. -/
theorem go4_calls (b l : Nat) (fv : Value) (w : World) (h : BShut b l w) :
    Calls Try.prog 63 #[.pointer (some ⟨b, 3, none⟩), fv] w fun e w' => e = .returned (.tuple #[]) ∧ w = w' := by
  have K2 := Lib.hid (loadB ⟨b, 3, none⟩ 1 w (blk_cell h.blk 3) rfl)
  have hnot : ∀ (x : Bool) (w : World), (Op.unary .not (.bool x)).run Try.prog w = .ok (.bool (!x)) w := fun _ _ => rfl
  clear h
  go_enter Try.func63, Try.ntmps63
  go_wp2_with (go_at_call 53; refine K2.out.mono ?_; rintro e w' ⟨rfl, rfl⟩)
  go_end0
  exact ⟨rfl, rfl⟩

theorem gb_drewN (w : World) (n : Nat) (r : Option Nat) : w.grownBy (w.drewN n) r := ⟨rfl, rfl, rfl, Nat.le_refl _, fun _ _ _ => rfl⟩
theorem size_alloc (w : World) (o : Obj) : (w.alloc o).heap.size = w.heap.size + 1 := by show (w.heap.push o).size = _; simp
theorem blk_at {w : World} {o : Obj} : (w.alloc o).heap[w.heap.size]? = some o := by
  show (w.heap.push _)[w.heap.size]? = _
  rw [Array.getElem?_push_size]
theorem blk_al {w : World} {b : Nat} {x : Obj} (h : w.heap[b]? = some x) (o : Obj) : (w.alloc o).heap[b]? = some x := (Below.heap_alloc w o b (blk_lt h)).trans h

end Go.Proofs.Ythgpjdnppknghaa.Bu
