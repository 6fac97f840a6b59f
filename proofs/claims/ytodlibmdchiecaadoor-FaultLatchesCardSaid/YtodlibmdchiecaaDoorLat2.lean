/- Package fault: a latch's methods. -/
import Derived.Test.YtodlibmdchiecaaDoorLat1
namespace Go.Proofs.YtodlibmdchiecaaDoor.La3
open Go.ChangeShapes Go.WideShapes Go.ChangeAt Go.RowKit
open Go.Proofs.YtodlibmdchiecaaDoor.Le
set_option linter.unusedVariables false

/-- Block b is a latch without a fault. -/
def LNo (b : Nat) (w : World) : Prop := w.heap[b]? = some (.cells (LC 0 0 0 0 0 0) 63 (0, 0))
/-- Block b is a latch that keeps a fault. -/
def LHas (b : Nat) (k f a : Int) (w : World) : Prop := w.heap[b]? = some (.cells (LC 1 0 k f a 1) 63 (0, 0))
theorem LNo.lt {b : Nat} {w : World} (h : LNo b w) : b < w.heap.size := blk_lt h
theorem LHas.lt {b : Nat} {k f a : Int} {w : World} (h : LHas b k f a w) : b < w.heap.size := blk_lt h
theorem LNo.grown {b : Nat} {w w' : World} {r : Option Nat} (h : LNo b w) (g : w.grownBy w' r) (hn : some b ≠ r) : LNo b w' := (g.block b h.lt hn).trans h
theorem LHas.grown {b : Nat} {k f a : Int} {w w' : World} {r : Option Nat} (h : LHas b k f a w) (g : w.grownBy w' r) (hn : some b ≠ r) : LHas b k f a w' := (g.block b h.lt hn).trans h

theorem newlatch_calls (w : World) : Calls Tryd.prog 17 #[] w fun e w' => e = .returned (.pointer (some ⟨w.heap.size, 0, none⟩)) ∧ LNo w.heap.size w' ∧ w.grownBy w' none := by
  go_enter Tryd.func17, Tryd.ntmps17
  go_wp2
  go_ret
  exact ⟨rfl, blk_at, World.grownBy_alloc _ _ _⟩

set_option maxRecDepth 100000 in
theorem note_none (b : Nat) (f a : Int) (w : World) :
    Calls Tryd.prog 18 #[.pointer (some ⟨b, 0, none⟩), .agg #[.int .i64 0, .int .i64 f, .int .i64 a]] w fun e w' => e = .returned (.bool false) ∧ w.grownBy w' none := by
  go_enter Tryd.func18, Tryd.ntmps18
  go_wp2
  go_ret
  exact ⟨rfl, gb_trans (World.grownBy_alloc _ _ _) (World.grownBy_alloc _ _ _)⟩

set_option maxRecDepth 100000 in
theorem note_first (b : Nat) (k f a : Int) (w : World) (h : LNo b w) (hk : k ≠ 0) :
    Calls Tryd.prog 18 #[.pointer (some ⟨b, 0, none⟩), .agg #[.int .i64 k, .int .i64 f, .int .i64 a]] w
      fun e w' => e = .returned (.bool true) ∧ LHas b k f a w' ∧ w.grownBy w' (some b) := by
  have hlt := h.lt
  have hk1 : (k == 0) = false := by simpa using hk
  have hmf : ∀ (fn : Fn) (first cap : Array Value) (w : World), (Instr.makeFunc fn first cap).run Tryd.prog w = .ok (.func fn first cap) w := fun _ _ _ _ => rfl
  have H := Lib.hid h
  clear h hk
  go_enter Tryd.func18, Tryd.ntmps18
  go_wp2_with fail
  refine (note3_calls b (w.heap.size + 1) w.heap.size (w.heap.size + 1 + 1) k f a _ (by omega) (by omega) (by omega) (by omega) (by omega) (blk_al (blk_al (blk_al H.out _) _) _) ?_ ?_ ?_).mono ?_
  · exact blk_cell (old3a (gb_refl _ none) (by simp)) 0
  · exact old3b (gb_refl _ none) (by simp)
  · exact old3c (gb_refl _ none) (by simp)
  rintro e w2 ⟨rfl, ⟨B2, Q2⟩, T2⟩
  have G : w.grownBy w2 (some b) := T2.own (gb_trans (gb_trans (World.grownBy_alloc _ _ _) (World.grownBy_alloc _ _ _)) (World.grownBy_alloc _ _ _)) (by
    intro x hx
    simp only [List.mem_cons, List.not_mem_nil, or_false] at hx
    rcases hx with rfl | rfl
    · exact .inr rfl
    · exact .inl (by omega))
  have q0 : w2.cell? ⟨w.heap.size + 1 + 1, 0, none⟩ = some (.bool true) := blk_cell Q2 0
  have HB := Lib.hid B2
  have HG := Lib.hid G
  clear B2 Q2 T2 G H
  go_wp2
  go_ret
  exact ⟨rfl, HB.out, HG.out⟩

set_option maxRecDepth 100000 in
theorem note_had (b : Nat) (k0 f0 a0 k f a : Int) (w : World) (h : LHas b k0 f0 a0 w) (hk : k ≠ 0) :
    Calls Tryd.prog 18 #[.pointer (some ⟨b, 0, none⟩), .agg #[.int .i64 k, .int .i64 f, .int .i64 a]] w
      fun e w' => e = .returned (.bool false) ∧ w.grownBy w' none := by
  have hlt := h.lt
  have hk1 : (k == 0) = false := by simpa using hk
  have hmf : ∀ (fn : Fn) (first cap : Array Value) (w : World), (Instr.makeFunc fn first cap).run Tryd.prog w = .ok (.func fn first cap) w := fun _ _ _ _ => rfl
  have H := Lib.hid h
  clear h hk
  go_enter Tryd.func18, Tryd.ntmps18
  go_wp2_with fail
  refine (note4_calls b k0 f0 a0 1 _ _ (blk_al (blk_al (blk_al H.out _) _) _)).mono ?_
  rintro e w2 ⟨rfl, rfl⟩
  clear H
  go_wp2
  go_ret
  exact ⟨rfl, gb_trans (gb_trans (World.grownBy_alloc _ _ _) (World.grownBy_alloc _ _ _)) (World.grownBy_alloc _ _ _)⟩

theorem is_no (b : Nat) (w : World) (h : LNo b w) : Calls Tryd.prog 19 #[.pointer (some ⟨b, 0, none⟩)] w fun e w' => e = .returned (.bool false) ∧ w = w' := by
  have K := Lib.hid (loadB ⟨b, 6, none⟩ 0 w (blk_cell h 6) rfl)
  clear h
  go_enter Tryd.func19, Tryd.ntmps19
  go_wp2_with (go_at_call 31; refine K.out.mono ?_; rintro e w' ⟨rfl, rfl⟩)
  go_ret
  exact ⟨rfl, rfl⟩
theorem is_yes (b : Nat) (k f a : Int) (w : World) (h : LHas b k f a w) : Calls Tryd.prog 19 #[.pointer (some ⟨b, 0, none⟩)] w fun e w' => e = .returned (.bool true) ∧ w = w' := by
  have K := Lib.hid (loadB ⟨b, 6, none⟩ 1 w (blk_cell h 6) rfl)
  clear h
  go_enter Tryd.func19, Tryd.ntmps19
  go_wp2_with (go_at_call 31; refine K.out.mono ?_; rintro e w' ⟨rfl, rfl⟩)
  go_ret
  exact ⟨rfl, rfl⟩

set_option maxRecDepth 100000 in
theorem get_no (b : Nat) (w : World) (h : LNo b w) : Calls Tryd.prog 20 #[.pointer (some ⟨b, 0, none⟩)] w
    fun e w' => e = .returned (.agg #[.int .i64 0, .int .i64 0, .int .i64 0]) ∧ w.grownBy w' none := by
  have K := Lib.hid (fun w' h => is_no b w' h)
  have hlt := h.lt
  have H := Lib.hid h
  clear h
  go_enter Tryd.func20, Tryd.ntmps20
  go_wp2_with fail
  refine (K.out _ (H.out.grown (World.grownBy_alloc _ _ none) (by simp))).mono ?_
  rintro e w' ⟨rfl, rfl⟩
  go_wp2
  refine bodyPost_ret (v := .agg #[.int .i64 0, .int .i64 0, .int .i64 0]) (by simp [results, Tryd.results20, go_sem]) rfl ⟨rfl, ?_⟩
  exact World.grownBy_alloc _ _ _
set_option maxRecDepth 100000 in
theorem get_yes (b : Nat) (k f a : Int) (w : World) (h : LHas b k f a w) : Calls Tryd.prog 20 #[.pointer (some ⟨b, 0, none⟩)] w
    fun e w' => e = .returned (.agg #[.int .i64 k, .int .i64 f, .int .i64 a]) ∧ w.grownBy w' none := by
  have K := Lib.hid (fun w' h => is_yes b k f a w' h)
  have hlt := h.lt
  have H := Lib.hid h
  have c3 : w.cell? ⟨b, 3, none⟩ = some (.int .i64 k) := blk_cell h 3
  have c4 : w.cell? ⟨b, 4, none⟩ = some (.int .i64 f) := blk_cell h 4
  have c5 : w.cell? ⟨b, 5, none⟩ = some (.int .i64 a) := blk_cell h 5
  clear h
  go_enter Tryd.func20, Tryd.ntmps20
  go_wp2_with fail
  refine (K.out _ (H.out.grown (World.grownBy_alloc _ _ none) (by simp))).mono ?_
  rintro e w' ⟨rfl, rfl⟩
  go_wp2
  refine bodyPost_ret (v := .agg #[.int .i64 k, .int .i64 f, .int .i64 a]) (by simp [results, Tryd.results20, go_sem]) rfl ⟨rfl, ?_⟩
  exact World.grownBy_alloc _ _ _

end Go.Proofs.YtodlibmdchiecaaDoor.La3
