/- One call of a buffer, and of the document's: handed over. -/
import Derived.Test.YtodlibmdchiecaaBufPlays2
namespace Go.Proofs.Ytodlibmdchiecaa.Bu
open Go.ChangeShapes Go.WideShapes Go.ChangeAt Go.RowKit
open Go.Proofs.Ytodlibmdchiecaa.Le
set_option linter.unusedVariables false

theorem PB.keptB {W w w' : World} {b l g : Nat} {s : ByteArray} {y : Int} (I : PB W b l g true s y w) (k : w.grownBy w' (some b)) : w'.heap[g]? = some (.cells (bys s) 5 (0, 0)) :=
  (k.block g I.op.glt (by have := I.op.bg; simpa using fun e => this e.symm)).trans I.op.byt
theorem conv_all {w : World} {g : Nat} {s : ByteArray} (h : w.heap[g]? = some (.cells (bys s) 5 (0, 0))) :
    (convert 44 9 (.slice (some ⟨g, 0, none⟩) s.size s.size)).run Try.prog w = .ok (.string s) w :=
  Lib.run_convert_whole (P := Try.prog) w 44 5 9 und8 (by kernel_rfl) (by kernel_rfl) g 0 s (fun i hi => by
    rw [Nat.zero_add]
    exact (blk_cell h i).trans (bys_at s i hi)) s.size

set_option maxRecDepth 100000 in
set_option maxHeartbeats 4000000 in
theorem one7_yes {W w : World} {b l g : Nat} {s : ByteArray} {y : Int} (I : PB W b l g true s y w) (i n v : Int) (S : ByteArray)
    (hb : b < w.heap.size) (hg : g < w.heap.size) (hl : l < w.heap.size) (hW : W.heap.size ≤ w.heap.size) :
    Calls Try.prog 10 #[.pointer (some ⟨b, 0, none⟩), .agg #[.string s, .bool true, .int .i64 y], .agg #[.int .i64 7, .int .i64 i, .int .i64 n, .int .u8 v, .string S]] w (Went W b l g) := by
  have HI := Lib.hid I
  clear I
  go_enter Try.func10, Try.ntmps10
  go_wp2_with fail
  have I3 := Lib.hid (((HI.out.al (.cells #[.string s, .bool true, .int .i64 y] 33)).al (.cells #[.int .i64 7, .int .i64 i, .int .i64 n, .int .u8 v, .string S] 35)).al (.cells #[.string ⟨#[]⟩, .bool false, .int .i64 0] 33))
  refine (out_yes b l g s _ I3.out.op).mono ?_
  rintro e w4 ⟨rfl, BS, g4⟩
  have bx := old3a g4 (by simp; omega)
  have br := old3c g4 (by simp; omega)
  have I4 := I3.out.handed BS g4
  have hb4 := I3.out.keptB g4
  have hb5 := blk_other (o := 2) (v := .int .i64 y) (blk_other (o := 1) (v := .bool false) (blk_other (o := 0) (v := .string ⟨#[]⟩) hb4 (show g ≠ w.heap.size + 1 + 1 by omega)) (show g ≠ w.heap.size + 1 + 1 by omega)) (show g ≠ w.heap.size + 1 + 1 by omega)
  have hcv := conv_all (w := w4) hb4
  have hcd := conv_all (w := w4.drew) hb4
  have hce := conv_all (w := ((((w4.setCell ⟨w.heap.size + 1 + 1, 0, none⟩ (.string ⟨#[]⟩)).setCell ⟨w.heap.size + 1 + 1, 1, none⟩ (.bool false)).setCell ⟨w.heap.size + 1 + 1, 2, none⟩ (.int .i64 y)).drew)) hb5
  clear hb4 hb5
  have c0 := blk_cell bx 0
  have c1 := blk_cell bx 1
  have c2 := blk_cell bx 2
  have d0 := blk_cell br 0
  have d1 := blk_cell br 1
  have d2 := blk_cell br 2
  simp only [List.getElem?_toArray, List.getElem?_cons_succ, List.getElem?_cons_zero] at c0 c1 c2 d0 d1 d2
  have fr := fun o => blk_free br o
  have I6 := Lib.hid (I4.put3 (w.heap.size + 1 + 1) (.string ⟨#[]⟩) (.bool false) (.int .i64 y) (by omega) (by omega) (by omega) (by omega))
  clear g4 I3 HI BS I4 bx br
  go_wp2
  go_region
  all_goals
    go_wp2
    exact bodyPost_ret (v := .tuple #[.agg #[.string ⟨#[]⟩, .bool false, .int .i64 y], .bool true]) (by simp [results, Try.results10, go_sem, d0, d1, d2]) rfl ⟨_, false, y, rfl, I6.out.drew⟩

set_option maxRecDepth 100000 in
set_option maxHeartbeats 4000000 in
theorem one7_no {W w : World} {b l g : Nat} {s : ByteArray} {y : Int} (I : PB W b l g false s y w) (i n v : Int) (S : ByteArray)
    (hb : b < w.heap.size) (hg : g < w.heap.size) (hl : l < w.heap.size) (hW : W.heap.size ≤ w.heap.size) :
    Calls Try.prog 10 #[.pointer (some ⟨b, 0, none⟩), .agg #[.string s, .bool false, .int .i64 y], .agg #[.int .i64 7, .int .i64 i, .int .i64 n, .int .u8 v, .string S]] w (Went W b l g) := by
  have HI := Lib.hid I
  clear I
  go_enter Try.func10, Try.ntmps10
  go_wp2_with fail
  have I3 := Lib.hid (((HI.out.al (.cells #[.string s, .bool false, .int .i64 y] 33)).al (.cells #[.int .i64 7, .int .i64 i, .int .i64 n, .int .u8 v, .string S] 35)).al (.cells #[.string ⟨#[]⟩, .bool false, .int .i64 0] 33))
  refine (out_no b l _ I3.out.sh).mono ?_
  rintro e w4 ⟨rfl, g4⟩
  have bx := old3a g4 (by simp)
  have br := old3c g4 (by simp)
  have I4 := I3.out.go g4
  have hs0 := I4.shutS
  subst hs0
  have hcv := fun w4 => run_convert_bytes_nil (P := Try.prog) w4 44 5 und8 (by kernel_rfl) 0 0 9 (by kernel_rfl)
  have c0 := blk_cell bx 0
  have c1 := blk_cell bx 1
  have c2 := blk_cell bx 2
  have d0 := blk_cell br 0
  have d1 := blk_cell br 1
  have d2 := blk_cell br 2
  simp only [List.getElem?_toArray, List.getElem?_cons_succ, List.getElem?_cons_zero] at c0 c1 c2 d0 d1 d2
  have fr := fun o => blk_free br o
  have I6 := Lib.hid (I4.put3 (w.heap.size + 1 + 1) (.string ⟨#[]⟩) (.bool false) (.int .i64 y) (by omega) (by omega) (by omega) (by omega))
  clear g4 I3 HI I4 bx br
  go_wp2
  go_region
  all_goals
    go_wp2
    exact bodyPost_ret (v := .tuple #[.agg #[.string ⟨#[]⟩, .bool false, .int .i64 y], .bool true]) (by simp [results, Try.results10, go_sem, d0, d1, d2]) rfl ⟨_, false, y, rfl, I6.out.drew⟩

end Go.Proofs.Ytodlibmdchiecaa.Bu
