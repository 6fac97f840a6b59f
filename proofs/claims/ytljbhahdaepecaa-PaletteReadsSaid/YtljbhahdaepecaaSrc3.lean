/- Package src: a window, why a reading failed, a new source. -/
import Derived.Test.YtljbhahdaepecaaSrc2
namespace Go.Proofs.Ytljbhahdaepecaa.Sr
open Go.ChangeShapes Go.WideShapes Go.ChangeAt Go.RowKit
open Go.Proofs.Ytljbhahdaepecaa.Le
set_option linter.unusedVariables false

theorem snew_nil (s : ByteArray) (w : World) :
    Calls Try.prog 16 #[.pointer none, .string s] w fun e w' => e = .returned (.tuple #[.pointer none, .int .i64 1]) ∧ w = w' := by
  go_enter Try.func16, Try.ntmps16
  go_wp2
  go_ret2
  exact ⟨rfl, rfl⟩

theorem snew_calls (l : Nat) (s : ByteArray) (w : World) (hs : s.size ≤ 9223372036854775807) :
    Calls Try.prog 16 #[.pointer (some ⟨l, 0, none⟩), .string s] w
      fun e w' => ∃ c, e = .returned (.tuple #[.pointer (some ⟨c, 0, none⟩), .int .i64 0]) ∧ (l < w.heap.size → So c l s 0 0 s.size w') ∧ w.grownBy w' none ∧ w.heap.size ≤ c := by
  go_enter Try.func16, Try.ntmps16
  go_wp2
  go_ret2
  refine ⟨w.heap.size, rfl, fun hl => ⟨?_, by omega, Nat.le_refl _, Nat.zero_le _, Nat.le_refl _, hs⟩, World.grownBy_alloc _ _ _, Nat.le_refl _⟩
  exact blk_new w (SC l s 0 0 s.size) 87

end Go.Proofs.Ytljbhahdaepecaa.Sr
