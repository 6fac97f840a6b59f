/- Layer 21: the document's Pack: what its walk carries (written by wip/gen/rw5.py). -/
import Derived.Test.YtafglaiclpdhnaaRw4
import Derived.Laws.AppendOwn
import Derived.Deep.AppendLies
import Derived.Deep.RegionHeld3
namespace Go.Proofs.Ytafglaiclpdhnaa.Rw
open Go.ChangeShapes Go.WideShapes Go.ChangeAt Go.RowKit
open Go.Proofs.Ytafglaiclpdhnaa.Le Go.Proofs.Ytafglaiclpdhnaa.Sc
set_option linter.unusedVariables false

theorem undI : Try.prog.underlying 22 = some (.slice 3) := by kernel_rfl
theorem infoI : ∃ i : TypeInfo, Try.prog.info? 3 = some i ∧ i.zero = some (.int .i64 0) ∧ i.size = 1 ∧ i.bytes = 8 := by
  have h0 : (Try.prog.info? 3).map (fun i => (i.zero, i.size, i.bytes)) = some (some (.int .i64 0), 1, 8) := by kernel_rfl
  cases e : Try.prog.info? 3 with
  | none => rw [e] at h0; cases h0
  | some i =>
    rw [e] at h0
    simp only [Option.map_some, Option.some.injEq, Prod.mk.injEq] at h0
    exact ⟨i, rfl, h0.1, h0.2.1, h0.2.2⟩
theorem info8 : ∃ i : TypeInfo, Try.prog.info? 5 = some i ∧ i.zero = some (.int .u8 0) ∧ i.size = 1 ∧ i.bytes = 1 := by
  have h0 : (Try.prog.info? 5).map (fun i => (i.zero, i.size, i.bytes)) = some (some (.int .u8 0), 1, 1) := by kernel_rfl
  cases e : Try.prog.info? 5 with
  | none => rw [e] at h0; cases h0
  | some i =>
    rw [e] at h0
    simp only [Option.map_some, Option.some.injEq, Prod.mk.injEq] at h0
    exact ⟨i, rfl, h0.1, h0.2.1, h0.2.2⟩
theorem gb_row {W w w' : World} {v : Value} {B n k : Nat} {e : TypeId} {xs : List Value} (g : W.grownBy w none) (O : w.ownsRow B e k v n xs) (hB : W.heap.size ≤ B) (h : w.grownBy w' v.ownBlock) : W.grownBy w' none := by
  refine ⟨h.os.trans g.os, h.tape.trans g.tape, h.output.trans g.output, Nat.le_trans g.size h.size, fun i hi _ => ?_⟩
  refine (h.block i (Nat.lt_of_lt_of_le hi g.size) ?_).trans (g.block i hi (by simp))
  rcases O.2 with ⟨rfl, _⟩ | ⟨a, c, cur, rfl, hb, _⟩
  · simp [Value.ownBlock]
  · simp [Value.ownBlock]
    omega
theorem own_gb {w w' : World} {v : Value} {B n k : Nat} {e : TypeId} {xs : List Value} (O : w.ownsRow B e k v n xs) (g : w.grownBy w' none) : w'.ownsRow B e k v n xs := by
  refine ⟨O.1, ?_⟩
  rcases O.2 with h | ⟨a, c, cur, h1, h2, h3, h4⟩
  · exact .inl h
  · exact .inr ⟨a, c, cur, h1, h2, (g.block a (blk_lt h3) (by simp)).trans h3, h4⟩
theorem one_new {w : World} {v : Value} {t : TypeId} {B : Nat} (h : w.heap[B]? = some (.cells #[v] t (0, 0))) : ∀ (j : Nat) u, [v][j]? = some u → w.cell? ((⟨B, 0, none⟩ : Addr).add j) = some u := fun j u hu =>
  World.news_of_block h j u hu

/-- The row's first m bits. -/
def bl (d n : Nat) (v : Nat → Int) (m : Nat) : List Value := (List.range m).map (fun t => Value.int .i64 (bitF d n v t))
theorem bl_len (d n : Nat) (v : Nat → Int) (m : Nat) : (bl d n v m).length = m := by unfold bl; simp
theorem bl_succ (d n : Nat) (v : Nat → Int) (m : Nat) : bl d n v (m + 1) = bl d n v m ++ [Value.int .i64 (bitF d n v m)] := by unfold bl; simp [List.range_succ]
structure BO (W w : World) (d n : Nat) (v : Nat → Int) (tv : Value) (m : Nat) : Prop where
  own : w.ownsRow W.heap.size 3 1 tv m (bl d n v m)
  g : W.grownBy w none
theorem BO.gb {W w w' : World} {d n : Nat} {v : Nat → Int} {tv : Value} {m : Nat} (h : BO W w d n v tv m) (g : w.grownBy w' none) : BO W w' d n v tv m := ⟨own_gb h.own g, gb_trans h.g g⟩
theorem BO.app {W w w' : World} {d n : Nat} {v : Nat → Int} {tv tv' : Value} {m : Nat} {x : Int} (h : BO W w d n v tv m) (ho : w'.ownsRow W.heap.size 3 1 tv' (m + 1) (bl d n v m ++ [Value.int .i64 x])) (hx : bitF d n v m = x) (hg : w.grownBy w' tv.ownBlock) : BO W w' d n v tv' (m + 1) :=
  ⟨by rw [bl_succ, hx]; exact ho, gb_row h.g h.own (Nat.le_refl _) hg⟩
theorem new_at {w : World} {o : Obj} : (w.alloc o).heap[w.heap.size]? = some o := blk_at

end Go.Proofs.Ytafglaiclpdhnaa.Rw
