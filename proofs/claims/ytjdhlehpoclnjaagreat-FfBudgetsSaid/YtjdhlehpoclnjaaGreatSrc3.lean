/- Package src: a window, why a reading failed, a new source. -/
import Derived.Test.YtjdhlehpoclnjaaGreatSrc2
namespace Go.Proofs.YtjdhlehpoclnjaaGreat.Sr
open Go.ChangeShapes Go.WideShapes Go.ChangeAt Go.RowKit
open Go.Proofs.YtjdhlehpoclnjaaGreat.Le
set_option linter.unusedVariables false

theorem fault_calls (b l : Nat) (s : ByteArray) (p f t : Nat) (x : St) (k : Int) (w : World) (h : So b l s p f t w) (hl : Led l x.ls w) :
    Calls Tryz.prog 89 #[.pointer (some ⟨b, 0, none⟩), .int .i64 k] w
      fun e w' => e = .returned (if x.r = 0 then .agg #[.int .i64 1, .int .i64 k, .int .i64 t] else .agg #[.int .i64 4, .int .i64 k, .int .i64 p]) ∧ w.grownBy w' none := by
  have d0 := h.c0
  have d2 := h.c2
  have d4 := h.c4
  have hb := h.lt
  have hB := hl.lt
  have K := broken_calls l x.ls (w.alloc (.cells #[.int .i64 0, .int .i64 0, .int .i64 0] 29)) (hl.alloc _)
  clear h hl
  by_cases hr : x.r = 0
  · rw [if_pos hr]
    rw [show (x.ls.br != 0) = false from by simp [St.ls, hr]] at K
    have hK := Lib.hid K
    clear K hr
    go_enter Tryz.func89, Tryz.ntmps89
    go_wp2_with (go_at_call 22; refine hK.out.mono ?_; rintro e w' ⟨rfl, rfl⟩)
    refine bodyPost_ret (v := .agg #[.int .i64 1, .int .i64 k, .int .i64 t]) (by simp [results, Tryz.results89, go_sem]) rfl ⟨rfl, World.grownBy_alloc _ _ _⟩
  · rw [if_neg hr]
    rw [show (x.ls.br != 0) = true from by simp [St.ls, hr]] at K
    have hK := Lib.hid K
    clear K hr
    go_enter Tryz.func89, Tryz.ntmps89
    go_wp2_with (go_at_call 22; refine hK.out.mono ?_; rintro e w' ⟨rfl, rfl⟩)
    refine bodyPost_ret (v := .agg #[.int .i64 4, .int .i64 k, .int .i64 p]) (by simp [results, Tryz.results89, go_sem]) rfl ⟨rfl, World.grownBy_alloc _ _ _⟩

theorem snew_nil (s : ByteArray) (w : World) :
    Calls Tryz.prog 37 #[.pointer none, .string s] w fun e w' => e = .returned (.tuple #[.pointer none, .int .i64 1]) ∧ w = w' := by
  go_enter Tryz.func37, Tryz.ntmps37
  go_wp2
  go_ret2
  exact ⟨rfl, rfl⟩

theorem snew_calls (l : Nat) (s : ByteArray) (w : World) (hs : s.size ≤ 9223372036854775807) :
    Calls Tryz.prog 37 #[.pointer (some ⟨l, 0, none⟩), .string s] w
      fun e w' => ∃ c, e = .returned (.tuple #[.pointer (some ⟨c, 0, none⟩), .int .i64 0]) ∧ (l < w.heap.size → So c l s 0 0 s.size w') ∧ w.grownBy w' none ∧ w.heap.size ≤ c := by
  go_enter Tryz.func37, Tryz.ntmps37
  go_wp2
  go_ret2
  refine ⟨w.heap.size, rfl, fun hl => ⟨?_, by omega, Nat.le_refl _, Nat.zero_le _, Nat.le_refl _, hs⟩, World.grownBy_alloc _ _ _, Nat.le_refl _⟩
  exact blk_new w (SC l s 0 0 s.size) 118

end Go.Proofs.YtjdhlehpoclnjaaGreat.Sr
