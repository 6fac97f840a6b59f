/- Package buf: a buffer is let go, once. -/
import Derived.Test.YtjdhlehpoclnjaaGreatBuf3
namespace Go.Proofs.YtjdhlehpoclnjaaGreat.Bu
open Go.ChangeShapes Go.WideShapes Go.ChangeAt Go.RowKit
open Go.Proofs.YtjdhlehpoclnjaaGreat.Le
set_option linter.unusedVariables false

/-- Of what was there, only the blocks S may have turned. -/
structure Tn (w w' : World) (S : List Nat) : Prop where
  os : w'.os = w.os
  tape : w'.tape = w.tape
  output : w'.output = w.output
  size : w.heap.size ≤ w'.heap.size
  block : ∀ k, k < w.heap.size → k ∉ S → w'.heap[k]? = w.heap[k]?
theorem Tn.refl (w : World) (S : List Nat) : Tn w w S := ⟨rfl, rfl, rfl, Nat.le_refl _, fun _ _ _ => rfl⟩
theorem Tn.trans {a b c : World} {S : List Nat} (h : Tn a b S) (k : Tn b c S) : Tn a c S :=
  ⟨k.os.trans h.os, k.tape.trans h.tape, k.output.trans h.output, Nat.le_trans h.size k.size, fun i hi hr => (k.block i (Nat.lt_of_lt_of_le hi h.size) hr).trans (h.block i hi hr)⟩
theorem Tn.mono {a b : World} {S R : List Nat} (h : Tn a b S) (k : ∀ x, x ∈ S → x ∈ R) : Tn a b R := ⟨h.os, h.tape, h.output, h.size, fun i hi hr => h.block i hi (fun hs => hr (k i hs))⟩
theorem Tn.gb {a b : World} {r : Option Nat} {S : List Nat} (h : a.grownBy b r) (k : ∀ x, some x = r → x ∈ S) : Tn a b S := ⟨h.os, h.tape, h.output, h.size, fun i hi hr => h.block i hi (fun e => hr (k i e))⟩
theorem Tn.set (w : World) (b o : Nat) (v : Value) {S : List Nat} (h : b ∈ S) : Tn w (w.setCell ⟨b, o, none⟩ v) S := Tn.gb (gb_set w b o v) (fun x e => by simp at e; exact e ▸ h)
theorem Tn.drew (w : World) (S : List Nat) : Tn w w.drew S := ⟨rfl, rfl, rfl, Nat.le_refl _, fun _ _ _ => rfl⟩
/-- What was made behind w0 may turn. -/
theorem Tn.own {w0 w w' : World} {r : Option Nat} {S : List Nat} (g : w0.grownBy w r) (h : Tn w w' S) (k : ∀ x, x ∈ S → w0.heap.size ≤ x ∨ some x = r) : w0.grownBy w' r :=
  ⟨h.os.trans g.os, h.tape.trans g.tape, h.output.trans g.output, Nat.le_trans g.size h.size, fun i hi hr => (h.block i (Nat.lt_of_lt_of_le hi g.size) (fun hs => by
    rcases k i hs with h1 | h1
    · omega
    · exact hr h1)).trans (g.block i hi hr)⟩

/-- The cells of a buffer. -/
def BC (l : Nat) (v : Value) (o : Bool) (d k : Int) : Array Value := #[.pointer (some ⟨l, 0, none⟩), v, .bool o, .int .u32 d, .int .i32 k, .int .u32 0]
theorem open_bc (l g n : Nat) : openCells l g n = BC l (.slice (some ⟨g, 0, none⟩) n n) true 0 0 := rfl
theorem shut_bc (l : Nat) : shutCells l = BC l (.slice none 0 0) false 1 0 := rfl

theorem blk_other {w : World} {b c o : Nat} {v : Value} {x : Option Obj} (h : w.heap[b]? = x) (hne : b ≠ c) : (w.setCell ⟨c, o, none⟩ v).heap[b]? = x :=
  (show _ = w.heap[b]? from Below.heap_setCell _ _ _ _ hne).trans h

set_option maxRecDepth 100000 in
/-- What the Once does: the bytes are told, and none are had any more. -/
theorem go1_calls (b l g n pb p1 p2 : Nat) (d k : Int) (w : World) (n1 : ¬ b = pb) (n2 : ¬ b = p1) (n3 : ¬ b = p2) (n4 : ¬ p1 = p2) (n5 : ¬ pb = p1) (n6 : ¬ pb = p2)
    (hb : w.heap[b]? = some (.cells (BC l (.slice (some ⟨g, 0, none⟩) n n) true d k) 161 (0, 0)))
    (hp : w.cell? ⟨pb, 0, none⟩ = some (.pointer (some ⟨b, 0, none⟩)))
    (h1 : w.heap[p1]? = some (.cells #[.slice none 0 0] 25 (0, 0))) (h2 : w.heap[p2]? = some (.cells #[.bool false] 4 (0, 0))) :
    Calls Tryz.prog 118 #[.pointer (some ⟨pb, 0, none⟩), .pointer (some ⟨p1, 0, none⟩), .pointer (some ⟨p2, 0, none⟩)] w
      fun e w' => e = .returned (.tuple #[]) ∧ (w'.heap[b]? = some (.cells (BC l (.slice none 0 0) false d k) 161 (0, 0)) ∧
        w'.heap[p1]? = some (.cells #[.slice (some ⟨g, 0, none⟩) n n] 25 (0, 0)) ∧ w'.heap[p2]? = some (.cells #[.bool true] 4 (0, 0))) ∧ Tn w w' [b, p1, p2] := by
  have c1 : w.cell? ⟨b, 1, none⟩ = some (.slice (some ⟨g, 0, none⟩) n n) := blk_cell hb 1
  have c2 : w.cell? ⟨b, 2, none⟩ = some (.bool true) := blk_cell hb 2
  have d1 : w.cell? ⟨p1, 0, none⟩ = some (.slice none 0 0) := blk_cell h1 0
  have d2 : w.cell? ⟨p2, 0, none⟩ = some (.bool false) := blk_cell h2 0
  have f1 := blk_free hb 1
  have f2 := blk_free hb 2
  have f3 := blk_free h1 0
  have f4 := blk_free h2 0
  have HB := Lib.hid hb
  have H1 := Lib.hid h1
  have H2 := Lib.hid h2
  clear hb h1 h2
  have m1 : ¬ p1 = pb := fun e => n5 e.symm
  have m2 : ¬ p2 = pb := fun e => n6 e.symm
  have m3 : ¬ p1 = b := fun e => n2 e.symm
  have m4 : ¬ p2 = b := fun e => n3 e.symm
  have m5 : ¬ p2 = p1 := fun e => n4 e.symm
  go_enter Tryz.func118, Tryz.ntmps118
  go_wp2
  go_region
  all_goals
    go_end0
    refine ⟨rfl, ⟨?_, ?_, ?_⟩, ?_⟩
    · have e1 := blk_set (blk_set (blk_other (blk_other HB.out n2 (o := 0) (v := .slice (some ⟨g, 0, none⟩) n n)) n3 (o := 0) (v := .bool true)) 1 (.slice none 0 0)) 2 (.bool false)
      exact e1
    · exact blk_other (blk_other (blk_other (blk_set H1.out 0 (.slice (some ⟨g, 0, none⟩) n n)) n4) m3) m3
    · exact blk_other (blk_other (blk_set (blk_other H2.out m5) 0 (.bool true)) m4) m4
    · exact (((Tn.set _ _ _ _ (by simp)).trans (Tn.set _ _ _ _ (by simp))).trans (Tn.drew _ _)).trans ((Tn.set _ _ _ _ (by simp)).trans (Tn.set _ _ _ _ (by simp)))

end Go.Proofs.YtjdhlehpoclnjaaGreat.Bu
