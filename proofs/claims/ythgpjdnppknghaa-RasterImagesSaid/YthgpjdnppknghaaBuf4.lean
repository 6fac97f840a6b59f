/- Package buf: a buffer is let go, once. -/
import Derived.Test.YthgpjdnppknghaaBuf3
namespace Go.Proofs.Ythgpjdnppknghaa.Bu
open Go.ChangeShapes Go.WideShapes Go.ChangeAt Go.RowKit
open Go.Proofs.Ythgpjdnppknghaa.Le
set_option linter.unusedVariables false

/-- Of what was there, only the blocks S may have turned. -/
structure Tn (w w' : World) (S : List Nat) : Prop where
  os : w'.os = w.os
  tape : w'.tape = w.tape
  output : w'.output = w.output
  size : w.heap.size ≤ w'.heap.size
  block : ∀ k, k < w.heap.size → k ∉ S → w'.heap[k]? = w.heap[k]?
theorem Tn.refl (w : World) (S : List Nat) : Tn w w S := ⟨rfl, rfl, rfl, Nat.le_refl _, fun _ _ _ => rfl⟩
theorem Tn.trans {a b c : World} {S : List Nat} (h : Tn a b S) (k : Tn b c S) : Tn a c S :=
  ⟨k.os.trans h.os, k.tape.trans h.tape, k.output.trans h.output, Nat.le_trans h.size k.size, fun i hi hr => (k.block i (Nat.lt_of_lt_of_le hi h.size) hr).trans (h.block i hi hr)⟩
theorem Tn.mono {a b : World} {S R : List Nat} (h : Tn a b S) (k : ∀ x, x ∈ S → x ∈ R) : Tn a b R := ⟨h.os, h.tape, h.output, h.size, fun i hi hr => h.block i hi (fun hs => hr (k i hs))⟩
theorem Tn.gb {a b : World} {r : Option Nat} {S : List Nat} (h : a.grownBy b r) (k : ∀ x, some x = r → x ∈ S) : Tn a b S := ⟨h.os, h.tape, h.output, h.size, fun i hi hr => h.block i hi (fun e => hr (k i e))⟩
theorem Tn.set (w : World) (b o : Nat) (v : Value) {S : List Nat} (h : b ∈ S) : Tn w (w.setCell ⟨b, o, none⟩ v) S := Tn.gb (gb_set w b o v) (fun x e => by simp at e; exact e ▸ h)
theorem Tn.drew (w : World) (S : List Nat) : Tn w w.drew S := ⟨rfl, rfl, rfl, Nat.le_refl _, fun _ _ _ => rfl⟩
/-- What was made behind w0 may turn. -/
theorem Tn.own {w0 w w' : World} {r : Option Nat} {S : List Nat} (g : w0.grownBy w r) (h : Tn w w' S) (k : ∀ x, x ∈ S → w0.heap.size ≤ x ∨ some x = r) : w0.grownBy w' r :=
  ⟨h.os.trans g.os, h.tape.trans g.tape, h.output.trans g.output, Nat.le_trans g.size h.size, fun i hi hr => (h.block i (Nat.lt_of_lt_of_le hi g.size) (fun hs => by
    rcases k i hs with h1 | h1
    · omega
    · exact hr h1)).trans (g.block i hi hr)⟩

/-- The cells of a buffer. -/
def BC (l : Nat) (v : Value) (o : Bool) (d k : Int) : Array Value := #[.pointer (some ⟨l, 0, none⟩), v, .bool o, .int .u32 d, .int .i32 k, .int .u32 0]
theorem open_bc (l g n : Nat) : openCells l g n = BC l (.slice (some ⟨g, 0, none⟩) n n) true 0 0 := rfl
theorem shut_bc (l : Nat) : shutCells l = BC l (.slice none 0 0) false 1 0 := rfl

theorem blk_other {w : World} {b c o : Nat} {v : Value} {x : Option Obj} (h : w.heap[b]? = x) (hne : b ≠ c) : (w.setCell ⟨c, o, none⟩ v).heap[b]? = x :=
  (show _ = w.heap[b]? from Below.heap_setCell _ _ _ _ hne).trans h

end Go.Proofs.Ythgpjdnppknghaa.Bu
