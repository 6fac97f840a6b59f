/- Texts of one kind, one behind the other: Qw6. -/
import Derived.Laws.CopyRow
import Derived.Test.YtmhghkgcfgacdaaGreatG25
/- Layer 26: the memory ahead of all. -/
namespace Go.Proofs.YtmhghkgcfgacdaaGreat.Qw
open Go.ChangeShapes Go.WideShapes Go.ChangeAt Go.RowKit Go.Proofs.YtmhghkgcfgacdaaGreat.Le
set_option linter.unusedVariables false

/-- The cells of the memory ahead of all. -/
def mem0 : List Value := [.int .u8 0, .int .u8 0, .int .u8 0, .int .u8 255] ++ List.replicate 256 (.int .u8 0)
theorem mem0_is : (((Tryz.zeroCells95.toList.set 0 (.int .u8 0)).set 1 (.int .u8 0)).set 2 (.int .u8 0)).set 3 (.int .u8 255) = mem0 := by kernel_rfl
theorem mem0_len : mem0.length = 260 := by
  unfold mem0
  rw [List.length_append, List.length_replicate]
  rfl
theorem mem0_one : ∀ v ∈ mem0, v.oneCell' = true := by
  intro v hv
  unfold mem0 at hv
  rcases List.mem_append.1 hv with h | h
  · simp at h
    rcases h with rfl | rfl <;> rfl
  · rw [(List.mem_replicate.1 h).2]
    rfl
theorem mem0_store (w : World) : Sem.run Tryz.prog (storeCells { block := w.heap.size, off := 0 } mem0) (w.alloc (.cells Tryz.zeroCells95 95)) = .ok () ((w.alloc (.cells Tryz.zeroCells95 95)).setRow w.heap.size mem0.toArray) := by
  have hz : Tryz.zeroCells95.size = 260 := by kernel_rfl
  have h := run_storeCells_at Tryz.prog w.heap.size 0 95 mem0 0 Tryz.zeroCells95 (w.alloc (.cells Tryz.zeroCells95 95)) blk_at (by rw [mem0_len, hz]; decide) mem0_one
  rw [h]
  have e : Tryz.zeroCells95.toList.take (0 + 0) ++ mem0 ++ Tryz.zeroCells95.toList.drop (0 + 0 + mem0.length) = mem0 := by
    rw [mem0_len, List.drop_eq_nil_of_le (by simp [hz])]
    simp
  rw [e]

set_option maxRecDepth 100000 in
set_option maxHeartbeats 4000000 in
theorem memory_calls (w : World) : Calls Tryz.prog 37 #[] w fun e w' => e = .returned (.agg mem0.toArray) ∧ w.grownBy w' none := by
  have hst := mem0_store w
  have HG := Lib.hid (World.grownBy_alloc w (.cells Tryz.zeroCells95 95) none)
  have HB := Lib.hid (setRow_heap (w.alloc (.cells Tryz.zeroCells95 95)) w.heap.size Tryz.zeroCells95 mem0.toArray 95 (0, 0) blk_at)
  have HW := Lib.hid (show w.grownBy ((w.alloc (.cells Tryz.zeroCells95 95)).setRow w.heap.size mem0.toArray) none from gb_own HG.out (Nat.le_refl _) ⟨rfl, rfl, rfl, by simp, fun k _ hk => setRow_other _ _ k _ (fun e => hk (by rw [e]))⟩)
  clear HG
  rw [← mem0_is] at hst
  go_enter Tryz.func37, Tryz.ntmps37
  go_wp2_with fail
  rw [mem0_is]
  generalize (w.alloc (.cells Tryz.zeroCells95 95)).setRow w.heap.size mem0.toArray = w1 at HB HW ⊢
  exact bodyPost_ret (v := .agg mem0.toArray) (results_cell_row Tryz.results37 _ _ w.heap.size _ mem0.toArray (0, 0) _ rfl HB.out Tryz.underlying95 rfl (by rw [List.size_toArray, mem0_len]; kernel_rfl)) rfl ⟨rfl, HW.out⟩

end Go.Proofs.YtmhghkgcfgacdaaGreat.Qw
