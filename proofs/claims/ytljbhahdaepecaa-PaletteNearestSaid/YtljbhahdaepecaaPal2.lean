/- Layer 10: the document's Far and Entry, walked. -/
import Derived.Test.YtljbhahdaepecaaPal1
import Derived.Test.YtljbhahdaepecaaTnL
import Derived.Laws.ResultCell
import Derived.Lib.RabinKarpLaws
import Derived.BigQuiet
namespace Go.Proofs.Ytljbhahdaepecaa.Pa
open Go.ChangeShapes Go.WideShapes Go.ChangeAt Go.RowKit
open Go.Proofs.Ytljbhahdaepecaa.Sc Go.Proofs.Ytljbhahdaepecaa.Le
set_option linter.unusedVariables false

def CC (a b c d : Int) : Array Value := #[.int .u8 a, .int .u8 b, .int .u8 c, .int .u8 d]

set_option maxRecDepth 100000 in
set_option maxHeartbeats 1000000 in
theorem rfar_calls (x0 x1 x2 x3 y0 y1 y2 y3 : Int) (W : World) (hx0 : 0 ≤ x0 ∧ x0 ≤ 255) (hx1 : 0 ≤ x1 ∧ x1 ≤ 255) (hx2 : 0 ≤ x2 ∧ x2 ≤ 255) (hx3 : 0 ≤ x3 ∧ x3 ≤ 255) (hy0 : 0 ≤ y0 ∧ y0 ≤ 255) (hy1 : 0 ≤ y1 ∧ y1 ≤ 255) (hy2 : 0 ≤ y2 ∧ y2 ≤ 255) (hy3 : 0 ≤ y3 ∧ y3 ≤ 255) :
    Calls Try.prog 23 #[.agg #[.int .u8 x0, .int .u8 x1, .int .u8 x2, .int .u8 x3], .agg #[.int .u8 y0, .int .u8 y1, .int .u8 y2, .int .u8 y3]] W
      fun e w' => e = .returned (.int .i64 ((x0 - y0) * (x0 - y0) + (x1 - y1) * (x1 - y1) + (x2 - y2) * (x2 - y2) + (x3 - y3) * (x3 - y3))) ∧ W.grownBy w' none := by
  have K0 := fun u => square_calls x0 y0 u hx0.1 hx0.2 hy0.1 hy0.2
  have K1 := fun u => square_calls x1 y1 u hx1.1 hx1.2 hy1.1 hy1.2
  have K2 := fun u => square_calls x2 y2 u hx2.1 hx2.2 hy2.1 hy2.2
  have K3 := fun u => square_calls x3 y3 u hx3.1 hx3.2 hy3.1 hy3.2
  obtain ⟨p0, q0⟩ := sq_bd (d := x0 - y0) (by omega) (by omega)
  obtain ⟨p1, q1⟩ := sq_bd (d := x1 - y1) (by omega) (by omega)
  obtain ⟨p2, q2⟩ := sq_bd (d := x2 - y2) (by omega) (by omega)
  obtain ⟨p3, q3⟩ := sq_bd (d := x3 - y3) (by omega) (by omega)
  obtain ⟨s0, e0⟩ : ∃ s, (x0 - y0) * (x0 - y0) = s := ⟨_, rfl⟩
  obtain ⟨s1, e1⟩ : ∃ s, (x1 - y1) * (x1 - y1) = s := ⟨_, rfl⟩
  obtain ⟨s2, e2⟩ : ∃ s, (x2 - y2) * (x2 - y2) = s := ⟨_, rfl⟩
  obtain ⟨s3, e3⟩ : ∃ s, (x3 - y3) * (x3 - y3) = s := ⟨_, rfl⟩
  simp only [e0] at K0 p0 q0
  simp only [e1] at K1 p1 q1
  simp only [e2] at K2 p2 q2
  simp only [e3] at K3 p3 q3
  rw [e0, e1, e2, e3]
  have K0' := Lib.hid K0
  have K1' := Lib.hid K1
  have K2' := Lib.hid K2
  have K3' := Lib.hid K3
  clear K0 K1 K2 K3 e0 e1 e2 e3 hx0 hx1 hx2 hx3 hy0 hy1 hy2 hy3
  have t1 : IntKind.i64.wrap (s0 + s1) = s0 + s1 := by rw [IntKind.wrap_i64]; omega
  have t2 : IntKind.i64.wrap (s0 + s1 + s2) = s0 + s1 + s2 := by rw [IntKind.wrap_i64]; omega
  have t3 : IntKind.i64.wrap (s0 + s1 + s2 + s3) = s0 + s1 + s2 + s3 := by rw [IntKind.wrap_i64]; omega
  go_enter Try.func23, Try.ntmps23
  go_wp2_with fail
  have hA : ((W.alloc (.cells #[.int .u8 x0, .int .u8 x1, .int .u8 x2, .int .u8 x3] 24)).alloc (.cells #[.int .u8 y0, .int .u8 y1, .int .u8 y2, .int .u8 y3] 24)).heap[W.heap.size]? = some (.cells #[.int .u8 x0, .int .u8 x1, .int .u8 x2, .int .u8 x3] 24 (0, 0)) := blk_al blk_at _
  have hB : ((W.alloc (.cells #[.int .u8 x0, .int .u8 x1, .int .u8 x2, .int .u8 x3] 24)).alloc (.cells #[.int .u8 y0, .int .u8 y1, .int .u8 y2, .int .u8 y3] 24)).heap[W.heap.size + 1]? = some (.cells #[.int .u8 y0, .int .u8 y1, .int .u8 y2, .int .u8 y3] 24 (0, 0)) := by
    rw [← size_alloc W (.cells #[.int .u8 x0, .int .u8 x1, .int .u8 x2, .int .u8 x3] 24)]
    exact blk_at
  have hG : W.grownBy ((W.alloc (.cells #[.int .u8 x0, .int .u8 x1, .int .u8 x2, .int .u8 x3] 24)).alloc (.cells #[.int .u8 y0, .int .u8 y1, .int .u8 y2, .int .u8 y3] 24)) none := gb_trans (World.grownBy_alloc _ _ _) (World.grownBy_alloc _ _ _)
  generalize (W.alloc (.cells #[.int .u8 x0, .int .u8 x1, .int .u8 x2, .int .u8 x3] 24)).alloc (.cells #[.int .u8 y0, .int .u8 y1, .int .u8 y2, .int .u8 y3] 24) = w1 at hA hB hG ⊢
  have a0 := blk_cell hA 0
  have a1 := blk_cell hA 1
  have a2 := blk_cell hA 2
  have a3 := blk_cell hA 3
  have b0 := blk_cell hB 0
  have b1 := blk_cell hB 1
  have b2 := blk_cell hB 2
  have b3 := blk_cell hB 3
  simp only [List.getElem?_toArray, List.getElem?_cons_succ, List.getElem?_cons_zero] at a0 a1 a2 a3 b0 b1 b2 b3
  have HG := Lib.hid hG
  clear hA hB hG
  go_region_held3 (fun w' => w'.cell? ⟨W.heap.size, 0, none⟩ = some (.int .u8 x0) ∧ w'.cell? ⟨W.heap.size, 1, none⟩ = some (.int .u8 x1) ∧ w'.cell? ⟨W.heap.size, 2, none⟩ = some (.int .u8 x2) ∧ w'.cell? ⟨W.heap.size, 3, none⟩ = some (.int .u8 x3) ∧ w'.cell? ⟨W.heap.size + 1, 0, none⟩ = some (.int .u8 y0) ∧ w'.cell? ⟨W.heap.size + 1, 1, none⟩ = some (.int .u8 y1) ∧ w'.cell? ⟨W.heap.size + 1, 2, none⟩ = some (.int .u8 y2) ∧ w'.cell? ⟨W.heap.size + 1, 3, none⟩ = some (.int .u8 y3)) (go_keep)
    (first | (go_at_call 35; with_reducible refine (K0'.out _).mono ?_; rintro e w' ⟨rfl, rfl⟩) | (go_at_call 35; with_reducible refine (K1'.out _).mono ?_; rintro e w' ⟨rfl, rfl⟩) | (go_at_call 35; with_reducible refine (K2'.out _).mono ?_; rintro e w' ⟨rfl, rfl⟩) | (go_at_call 35; with_reducible refine (K3'.out _).mono ?_; rintro e w' ⟨rfl, rfl⟩))
  all_goals
    go_wp2
    go_ret
    exact ⟨rfl, gb_trans HG.out (gb_drew _ _)⟩

end Go.Proofs.Ytljbhahdaepecaa.Pa
