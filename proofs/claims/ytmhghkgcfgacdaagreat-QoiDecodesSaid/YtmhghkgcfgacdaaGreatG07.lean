/- Texts of one kind, one behind the other: TnL. -/
import Derived.Test.YtmhghkgcfgacdaaGreatG06
/- Which blocks a call may have turned; blocks that were there ahead of it, and those that it makes (over a ledger's texts). -/
namespace Go.Proofs.YtmhghkgcfgacdaaGreat.Le
open Go.ChangeShapes Go.WideShapes Go.ChangeAt Go.RowKit
set_option linter.unusedVariables false

/-- Of what was there, only the blocks S may have turned. -/
structure Tn (w w' : World) (S : List Nat) : Prop where
  os : w'.os = w.os
  tape : w'.tape = w.tape
  output : w'.output = w.output
  size : w.heap.size ≤ w'.heap.size
  block : ∀ k, k < w.heap.size → k ∉ S → w'.heap[k]? = w.heap[k]?
theorem Tn.refl (w : World) (S : List Nat) : Tn w w S := ⟨rfl, rfl, rfl, Nat.le_refl _, fun _ _ _ => rfl⟩
theorem Tn.trans {a b c : World} {S : List Nat} (h : Tn a b S) (k : Tn b c S) : Tn a c S :=
  ⟨k.os.trans h.os, k.tape.trans h.tape, k.output.trans h.output, Nat.le_trans h.size k.size, fun i hi hr => (k.block i (Nat.lt_of_lt_of_le hi h.size) hr).trans (h.block i hi hr)⟩
theorem Tn.mono {a b : World} {S R : List Nat} (h : Tn a b S) (k : ∀ x, x ∈ S → x ∈ R) : Tn a b R := ⟨h.os, h.tape, h.output, h.size, fun i hi hr => h.block i hi (fun hs => hr (k i hs))⟩
theorem Tn.gb {a b : World} {r : Option Nat} {S : List Nat} (h : a.grownBy b r) (k : ∀ x, some x = r → x ∈ S) : Tn a b S := ⟨h.os, h.tape, h.output, h.size, fun i hi hr => h.block i hi (fun e => hr (k i e))⟩
theorem Tn.set (w : World) (b o : Nat) (v : Value) {S : List Nat} (h : b ∈ S) : Tn w (w.setCell ⟨b, o, none⟩ v) S := Tn.gb (gb_set w b o v) (fun x e => by simp at e; exact e ▸ h)
theorem Tn.drew (w : World) (S : List Nat) : Tn w w.drew S := ⟨rfl, rfl, rfl, Nat.le_refl _, fun _ _ _ => rfl⟩
/-- What was made behind w0 may turn. -/
theorem Tn.own {w0 w w' : World} {r : Option Nat} {S : List Nat} (g : w0.grownBy w r) (h : Tn w w' S) (k : ∀ x, x ∈ S → w0.heap.size ≤ x ∨ some x = r) : w0.grownBy w' r :=
  ⟨h.os.trans g.os, h.tape.trans g.tape, h.output.trans g.output, Nat.le_trans g.size h.size, fun i hi hr => (h.block i (Nat.lt_of_lt_of_le hi g.size) (fun hs => by
    rcases k i hs with h1 | h1
    · omega
    · exact hr h1)).trans (g.block i hi hr)⟩

theorem blk_other {w : World} {b c o : Nat} {v : Value} {x : Option Obj} (h : w.heap[b]? = x) (hne : b ≠ c) : (w.setCell ⟨c, o, none⟩ v).heap[b]? = x :=
  (show _ = w.heap[b]? from Below.heap_setCell _ _ _ _ hne).trans h

theorem gb_drewN (w : World) (n : Nat) (r : Option Nat) : w.grownBy (w.drewN n) r := ⟨rfl, rfl, rfl, Nat.le_refl _, fun _ _ _ => rfl⟩
theorem size_alloc (w : World) (o : Obj) : (w.alloc o).heap.size = w.heap.size + 1 := by show (w.heap.push o).size = _; simp
theorem blk_at {w : World} {o : Obj} : (w.alloc o).heap[w.heap.size]? = some o := by
  show (w.heap.push _)[w.heap.size]? = _
  rw [Array.getElem?_push_size]
theorem blk_al {w : World} {b : Nat} {x : Obj} (h : w.heap[b]? = some x) (o : Obj) : (w.alloc o).heap[b]? = some x := (Below.heap_alloc w o b (blk_lt h)).trans h

section
variable {w w' : World} {r : Option Nat} {o1 o2 o3 : Obj}
theorem old0 (g : w.grownBy w' r) {b : Nat} {x : Option Obj} (h : w.heap[b]? = x) (hb : b < w.heap.size) (hr : some b ≠ r) : w'.heap[b]? = x := (g.block b hb hr).trans h
theorem old1 (g : (w.alloc o1).grownBy w' r) (hr : some w.heap.size ≠ r) : w'.heap[w.heap.size]? = some o1 := (g.block _ (by rw [size_alloc]; omega) hr).trans blk_at
theorem old2a (g : ((w.alloc o1).alloc o2).grownBy w' r) (hr : some w.heap.size ≠ r) : w'.heap[w.heap.size]? = some o1 := (g.block _ (by rw [size_alloc, size_alloc]; omega) hr).trans (blk_al blk_at _)
theorem old2b (g : ((w.alloc o1).alloc o2).grownBy w' r) (hr : some (w.heap.size + 1) ≠ r) : w'.heap[w.heap.size + 1]? = some o2 :=
  (g.block _ (by rw [size_alloc, size_alloc]; omega) hr).trans (by have h := blk_at (w := w.alloc o1) (o := o2); rwa [size_alloc] at h)
theorem old3a (g : (((w.alloc o1).alloc o2).alloc o3).grownBy w' r) (hr : some w.heap.size ≠ r) : w'.heap[w.heap.size]? = some o1 := (g.block _ (by rw [size_alloc, size_alloc, size_alloc]; omega) hr).trans (blk_al (blk_al blk_at _) _)
theorem old3b (g : (((w.alloc o1).alloc o2).alloc o3).grownBy w' r) (hr : some (w.heap.size + 1) ≠ r) : w'.heap[w.heap.size + 1]? = some o2 :=
  (g.block _ (by rw [size_alloc, size_alloc, size_alloc]; omega) hr).trans (blk_al (by have h := blk_at (w := w.alloc o1) (o := o2); rwa [size_alloc] at h) _)
theorem old3c (g : (((w.alloc o1).alloc o2).alloc o3).grownBy w' r) (hr : some (w.heap.size + 1 + 1) ≠ r) : w'.heap[w.heap.size + 1 + 1]? = some o3 :=
  (g.block _ (by rw [size_alloc, size_alloc, size_alloc]; omega) hr).trans (by have h := blk_at (w := (w.alloc o1).alloc o2) (o := o3); rwa [size_alloc, size_alloc] at h)
end

theorem gb_own {a b c : World} {k : Nat} (h : a.grownBy b none) (hk : a.heap.size ≤ k) (g : b.grownBy c (some k)) : a.grownBy c none :=
  ⟨g.os.trans h.os, g.tape.trans h.tape, g.output.trans h.output, Nat.le_trans h.size g.size,
    fun i hi _ => (g.block i (Nat.lt_of_lt_of_le hi h.size) (by simp; omega)).trans (h.block i hi (by simp))⟩

theorem Led.turned {b : Nat} {S : LS} {w w' : World} {R : List Nat} (h : Led b S w) (k : Tn w w' R) (hb : b ∉ R) : Led b S w' := (k.block b h.lt hb).trans h
theorem Led.oth {b c o : Nat} {v : Value} {S : LS} {w : World} (h : Led b S w) (hne : b ≠ c) : Led b S (w.setCell ⟨c, o, none⟩ v) := blk_other h hne

section
variable {a b c : World} {S R : List Nat} {o : Obj}
theorem Tn.st {k i : Nat} {v : Value} (h : Tn a b S) (hk : k ∈ S) : Tn a (b.setCell ⟨k, i, none⟩ v) S := h.trans (Tn.set _ _ _ _ hk)
theorem Tn.al (h : Tn a b S) : Tn a (b.alloc o) S := h.trans (Tn.gb (World.grownBy_alloc _ _ none) (by simp))
theorem Tn.dr (h : Tn a b S) : Tn a b.drew S := h.trans (Tn.drew _ _)
theorem Tn.dn {n : Nat} (h : Tn a b S) : Tn a (b.drewN n) S := h.trans (Tn.gb (gb_drewN _ _ none) (by simp))
theorem Tn.over (h : Tn a b S) (k : Tn b c R) (hr : ∀ x, x ∈ R → a.heap.size ≤ x ∨ x ∈ S) : Tn a c S :=
  ⟨k.os.trans h.os, k.tape.trans h.tape, k.output.trans h.output, Nat.le_trans h.size k.size, fun i hi hs => (k.block i (Nat.lt_of_lt_of_le hi h.size) (fun hR => by
    rcases hr i hR with h1 | h1
    · omega
    · exact hs h1)).trans (h.block i hi hs)⟩
theorem tn2a {o1 o2 : Obj} (g : Tn ((a.alloc o1).alloc o2) b S) (h : a.heap.size ∉ S) : b.heap[a.heap.size]? = some o1 := (g.block _ (by rw [size_alloc, size_alloc]; omega) h).trans (blk_al blk_at _)
theorem tn2b {o1 o2 : Obj} (g : Tn ((a.alloc o1).alloc o2) b S) (h : a.heap.size + 1 ∉ S) : b.heap[a.heap.size + 1]? = some o2 :=
  (g.block _ (by rw [size_alloc, size_alloc]; omega) h).trans (by have h := blk_at (w := a.alloc o1) (o := o2); rwa [size_alloc] at h)
theorem tn3a {o1 o2 o3 : Obj} (g : Tn (((a.alloc o1).alloc o2).alloc o3) b S) (h : a.heap.size ∉ S) : b.heap[a.heap.size]? = some o1 := (g.block _ (by rw [size_alloc, size_alloc, size_alloc]; omega) h).trans (blk_al (blk_al blk_at _) _)
theorem tn3b {o1 o2 o3 : Obj} (g : Tn (((a.alloc o1).alloc o2).alloc o3) b S) (h : a.heap.size + 1 ∉ S) : b.heap[a.heap.size + 1]? = some o2 :=
  (g.block _ (by rw [size_alloc, size_alloc, size_alloc]; omega) h).trans (blk_al (by have h := blk_at (w := a.alloc o1) (o := o2); rwa [size_alloc] at h) _)
theorem tn3c {o1 o2 o3 : Obj} (g : Tn (((a.alloc o1).alloc o2).alloc o3) b S) (h : a.heap.size + 1 + 1 ∉ S) : b.heap[a.heap.size + 1 + 1]? = some o3 :=
  (g.block _ (by rw [size_alloc, size_alloc, size_alloc]; omega) h).trans (by have h := blk_at (w := (a.alloc o1).alloc o2) (o := o3); rwa [size_alloc, size_alloc] at h)
end

end Go.Proofs.YtmhghkgcfgacdaaGreat.Le
