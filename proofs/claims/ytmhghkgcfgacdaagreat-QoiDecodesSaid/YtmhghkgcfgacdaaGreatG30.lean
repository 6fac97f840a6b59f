/- Texts of one kind, one behind the other: Qo8a, Qp1. -/
import Derived.Laws.CopyRow
import Derived.Test.YtmhghkgcfgacdaaGreatG26
import Derived.Test.YtmhghkgcfgacdaaGreatG29
/- Layer 26: the pixels' struct ahead of all. (Written by gen/qo8.py.) -/
namespace Go.Proofs.YtmhghkgcfgacdaaGreat.Qo
open Go.ChangeShapes Go.WideShapes Go.ChangeAt Go.RowKit
open Go.Proofs.YtmhghkgcfgacdaaGreat.Le Go.Proofs.YtmhghkgcfgacdaaGreat.Tk Go.Proofs.YtmhghkgcfgacdaaGreat.Sr Go.Proofs.YtmhghkgcfgacdaaGreat.Sh Go.Proofs.YtmhghkgcfgacdaaGreat.Qw
open Go.Proofs.YtmhghkgcfgacdaaGreat.Ra hiding bt
set_option linter.unusedVariables false

/-- The struct's cells ahead of all. -/
def mem1 (c r : Nat) (D : Int) : List Value := mem0 ++ [.pointer (some ⟨c, 0, none⟩), .pointer (some ⟨r, 0, none⟩), .int .i64 0, .int .i64 D]
theorem mem1_z : List.foldl (fun cs x => cs.setIfInBounds x.snd x.fst) Tryz.zeroCells124 mem0.zipIdx = (mem0 ++ ([.pointer none, .pointer none, .int .i64 0, .int .i64 0] : List Value)).toArray := by kernel_rfl
theorem four_set (m : List Value) (a b i d p q v : Value) (h : m.length = 260) : ((((m ++ [a, b, i, d]).toArray.toList.set 260 p).set 261 q).set 263 v) = m ++ [p, q, i, v] := by
  rw [List.toList_toArray, List.set_append_right _ _ (by rw [h]; decide), List.set_append_right _ _ (by rw [h]; decide), List.set_append_right _ _ (by rw [h]; decide), h]
  rfl
theorem mem1_is (c r : Nat) (D : Int) : ((((List.foldl (fun cs x => cs.setIfInBounds x.snd x.fst) Tryz.zeroCells124 mem0.zipIdx).toList.set 260 (Value.pointer (some { block := c, off := 0 }))).set 261 (Value.pointer (some { block := r, off := 0 }))).set 263 (Value.int IntKind.i64 D)) = mem1 c r D := by
  rw [mem1_z]
  exact four_set mem0 _ _ _ _ _ _ _ mem0_len
theorem mem1_len (c r : Nat) (D : Int) : (mem1 c r D).length = 264 := by
  unfold mem1
  rw [List.length_append, mem0_len]
  rfl
theorem mem1_one (c r : Nat) (D : Int) : ∀ v ∈ mem1 c r D, v.oneCell' = true := by
  intro v hv
  unfold mem1 at hv
  rcases List.mem_append.1 hv with h | h
  · exact mem0_one v h
  · simp at h
    rcases h with rfl | rfl | rfl | rfl <;> rfl
theorem mem1_store (w : World) (c r : Nat) (D : Int) : Sem.run Tryz.prog (storeCells { block := w.heap.size, off := 0 } ((((List.foldl (fun cs x => cs.setIfInBounds x.snd x.fst) Tryz.zeroCells124 mem0.zipIdx).toList.set 260 (Value.pointer (some { block := c, off := 0 }))).set 261 (Value.pointer (some { block := r, off := 0 }))).set 263 (Value.int IntKind.i64 D))) (w.alloc (.cells Tryz.zeroCells124 124)) = .ok () ((w.alloc (.cells Tryz.zeroCells124 124)).setRow w.heap.size (mem1 c r D).toArray) := by
  rw [mem1_is]
  have hz : Tryz.zeroCells124.size = 264 := by kernel_rfl
  have h := run_storeCells_at Tryz.prog w.heap.size 0 124 (mem1 c r D) 0 Tryz.zeroCells124 (w.alloc (.cells Tryz.zeroCells124 124)) blk_at (by rw [mem1_len, hz]; decide) (mem1_one c r D)
  rw [h]
  have e : Tryz.zeroCells124.toList.take (0 + 0) ++ mem1 c r D ++ Tryz.zeroCells124.toList.drop (0 + 0 + (mem1 c r D).length) = mem1 c r D := by
    rw [mem1_len, List.drop_eq_nil_of_le (by simp [hz])]
    simp
  rw [e]
theorem mem1_lo (c r : Nat) (D : Int) (k : Nat) (h : k < 260) : (mem1 c r D)[k]? = mem0[k]? := by
  unfold mem1
  exact List.getElem?_append_left (by rw [mem0_len]; exact h)
theorem mem1_hi (c r : Nat) (D : Int) (k : Nat) : (mem1 c r D)[260 + k]? = ([.pointer (some ⟨c, 0, none⟩), .pointer (some ⟨r, 0, none⟩), .int .i64 0, .int .i64 D] : List Value)[k]? := by
  unfold mem1
  rw [List.getElem?_append_right (by rw [mem0_len]; omega), mem0_len, Nat.add_sub_cancel_left]
theorem mem0_z (k : Nat) (h : k < 256) : mem0[4 + k]? = some (.int .u8 0) := by
  unfold mem0
  rw [List.getElem?_append_right (by show 4 ≤ 4 + k; omega)]
  rw [List.getElem?_replicate, if_pos (by show 4 + k - 4 < 256; omega)]
theorem mem1_mc (c r : Nat) (D : Int) : MC (mem1 c r D).toArray R0.last R0.seen := by
  refine ⟨fun j hj => ?_, fun k j hk hj => ?_⟩
  · rw [List.getElem?_toArray, mem1_lo _ _ _ _ (by omega)]
    have : j = 0 ∨ j = 1 ∨ j = 2 ∨ j = 3 := by omega
    rcases this with rfl | rfl | rfl | rfl <;> rfl
  · rw [List.getElem?_toArray, mem1_lo _ _ _ _ (by omega), Nat.add_assoc, mem0_z _ (by omega)]
    have : j = 0 ∨ j = 1 ∨ j = 2 ∨ j = 3 := by omega
    rcases this with rfl | rfl | rfl | rfl <;> rfl
theorem mem1_pb (L c r n : Nat) (w : World) (h : w.heap[L]? = some (.cells (mem1 c r n).toArray 124 (0, 0))) : PB L c r R0.last R0.seen 0 n (mem1 c r n).toArray w :=
  ⟨h, by rw [List.size_toArray, mem1_len], mem1_mc c r n, by rw [List.getElem?_toArray]; exact mem1_hi c r n 0, by rw [List.getElem?_toArray]; exact mem1_hi c r n 1, by rw [List.getElem?_toArray]; exact mem1_hi c r n 2, by rw [List.getElem?_toArray]; exact mem1_hi c r n 3⟩

end Go.Proofs.YtmhghkgcfgacdaaGreat.Qo

/- Layer 26: the writer's struct ahead of all. -/
namespace Go.Proofs.YtmhghkgcfgacdaaGreat.Qo
open Go.ChangeShapes Go.WideShapes Go.ChangeAt Go.RowKit
open Go.Proofs.YtmhghkgcfgacdaaGreat.Le Go.Proofs.YtmhghkgcfgacdaaGreat.Tk Go.Proofs.YtmhghkgcfgacdaaGreat.Sr Go.Proofs.YtmhghkgcfgacdaaGreat.Sh Go.Proofs.YtmhghkgcfgacdaaGreat.Qw
open Go.Proofs.YtmhghkgcfgacdaaGreat.Ra hiding bt
set_option linter.unusedVariables false

/-- The writer's cells ahead of all. -/
def mem2 : List Value := mem0 ++ [.pointer none, .slice none 0 0]
theorem mem2_z : List.foldl (fun cs x => cs.setIfInBounds x.snd x.fst) Tryz.zeroCells101 mem0.zipIdx = mem2.toArray := by kernel_rfl
theorem mem2_len : mem2.length = 262 := by
  unfold mem2
  rw [List.length_append, mem0_len]
  rfl
theorem mem2_one : ∀ v ∈ mem2, v.oneCell' = true := by
  intro v hv
  unfold mem2 at hv
  rcases List.mem_append.1 hv with h | h
  · exact mem0_one v h
  · simp at h
    rcases h with rfl | rfl <;> rfl
theorem mem2_store (w : World) : Sem.run Tryz.prog (storeCells { block := w.heap.size, off := 0 } (List.foldl (fun cs x => cs.setIfInBounds x.snd x.fst) Tryz.zeroCells101 mem0.zipIdx).toList) (w.alloc (.cells Tryz.zeroCells101 101)) = .ok () ((w.alloc (.cells Tryz.zeroCells101 101)).setRow w.heap.size mem2.toArray) := by
  rw [mem2_z, List.toList_toArray]
  have hz : Tryz.zeroCells101.size = 262 := by kernel_rfl
  have h := run_storeCells_at Tryz.prog w.heap.size 0 101 mem2 0 Tryz.zeroCells101 (w.alloc (.cells Tryz.zeroCells101 101)) blk_at (by rw [mem2_len, hz]; decide) mem2_one
  rw [h]
  have e : Tryz.zeroCells101.toList.take (0 + 0) ++ mem2 ++ Tryz.zeroCells101.toList.drop (0 + 0 + mem2.length) = mem2 := by
    rw [mem2_len, List.drop_eq_nil_of_le (by simp [hz])]
    simp
  rw [e]
theorem mem2_lo (k : Nat) (h : k < 260) : mem2[k]? = mem0[k]? := by
  unfold mem2
  exact List.getElem?_append_left (by rw [mem0_len]; exact h)
theorem mem2_hi (k : Nat) : mem2[260 + k]? = ([.pointer none, .slice none 0 0] : List Value)[k]? := by
  unfold mem2
  rw [List.getElem?_append_right (by rw [mem0_len]; omega), mem0_len, Nat.add_sub_cancel_left]
theorem mem2_mc : MC mem2.toArray R0.last R0.seen := by
  refine ⟨fun j hj => ?_, fun k j hk hj => ?_⟩
  · rw [List.getElem?_toArray, mem2_lo _ (by omega)]
    have : j = 0 ∨ j = 1 ∨ j = 2 ∨ j = 3 := by omega
    rcases this with rfl | rfl | rfl | rfl <;> rfl
  · rw [List.getElem?_toArray, mem2_lo _ (by omega), Nat.add_assoc, mem0_z _ (by omega)]
    have : j = 0 ∨ j = 1 ∨ j = 2 ∨ j = 3 := by omega
    rcases this with rfl | rfl | rfl | rfl <;> rfl

end Go.Proofs.YtmhghkgcfgacdaaGreat.Qo
