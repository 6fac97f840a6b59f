/- Package fault: the text of any fault, over a world that holds the powers of ten. -/
import Derived.Test.YtdcmbjhjfdjdhaaDoorFau8
import Derived.Lib.ItoaLen
namespace Go.Proofs.YtdcmbjhjfdjdhaaDoor.Fa
open Go.ChangeShapes Go.WideShapes Go.ChangeAt Go.RowKit
open Go.Proofs.YtdcmbjhjfdjdhaaDoor.Le
set_option linter.unusedVariables false

/-- The powers of ten lie in the world. -/
abbrev Ten (w : World) : Prop := Lib.TabIs Tryd.prog w "internal/strconv.uint64pow10" .u64 Lib.pow10Tab
theorem Ten.kept {w w' : World} (h : Ten w) (hg : w.grownBy w' none) : Ten w' := by
  have hgn : Tryd.prog.globalNamed "internal/strconv.uint64pow10" = some 1 := by kernel_rfl
  unfold Ten Lib.TabIs World.var? at h ⊢
  rw [hgn] at h ⊢
  simp only [Option.bind_some] at h ⊢
  have hlt : 1 < w.heap.size := by
    rcases Nat.lt_or_ge 1 w.heap.size with h' | h'
    · exact h'
    · rw [Array.getElem?_eq_none h'] at h; cases h
  rw [hg.block _ hlt (by simp)]
  exact h
theorem gb_grow (w : World) (k : Nat) (os : Array Obj) : w.grownBy (Go.Sort.grow (w.drewN k) os) none := by
  refine ⟨rfl, rfl, rfl, ?_, fun i hi _ => ?_⟩
  · show _ ≤ (w.heap ++ os).size
    rw [Array.size_append]; omega
  · show (w.heap ++ os)[i]? = w.heap[i]?
    rw [Array.getElem?_append_left hi]
theorem itoa_calls (a : Int) (w : World) (h0 : -9223372036854775808 ≤ a) (h1 : a ≤ 9223372036854775807) (ht : Ten w) :
    Calls Tryd.prog 21 #[.int .i64 a] w fun e w2 => e = .returned (.string ⟨(Lib.itoa a).toArray⟩) ∧ w.grownBy w2 none := by
  refine (Tryd.strconv_Itoa a h0 h1 w ht).mono ?_
  rintro e w2 ⟨rfl, k, os, rfl⟩
  exact ⟨rfl, gb_grow _ _ _⟩
/-- What Text answers. -/
def textV (k x a : Int) : Value :=
  if rightB k x a = true then .tuple #[.string (kw k ++ ⟨#[32]⟩ ++ fw x ++ ⟨#[32]⟩ ++ ⟨(Lib.itoa a).toArray⟩), .int .i64 0] else .tuple #[.string ⟨#[]⟩, .int .i64 1]
theorem text_calls (k x a : Int) (w : World) (h0 : -9223372036854775808 ≤ a) (h1 : a ≤ 9223372036854775807) (ht : Ten w) :
    Calls Tryd.prog 6 #[.agg #[.int .i64 k, .int .i64 x, .int .i64 a]] w
      fun e w' => e = .returned (textV k x a) ∧ w.grownBy w' none := by
  unfold textV
  by_cases hr : rightB k x a = true
  · rw [if_pos hr]
    refine text_go k x a w (kw k) (fw x) _ (kw_size k) (fw_size x) ?_ (fun w => ?_) (fun w => kind_calls k w) (fun w => format_calls x w) (fun w' g => itoa_calls a w' h0 h1 (ht.kept g))
    · rw [Lib.size_eq]; exact Lib.itoa_length_le a h0 h1
    · have h := right_calls k x a w
      rwa [hr] at h
  · rw [if_neg hr]
    exact text_wrong k x a w (by simpa using hr)

end Go.Proofs.YtdcmbjhjfdjdhaaDoor.Fa
