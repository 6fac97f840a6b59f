/- Layer 10: what PaletteReads' walk carries from place to place. -/
import Derived.Test.YtljbhahdaepecaaPalP
import Derived.Test.YtljbhahdaepecaaPalF
namespace Go.Proofs.Ytljbhahdaepecaa.Pa
open Go.ChangeShapes Go.WideShapes Go.ChangeAt Go.RowKit
open Go.Proofs.Ytljbhahdaepecaa.Sc Go.Proofs.Ytljbhahdaepecaa.Le
set_option linter.unusedVariables false

theorem LB_new (m : Nat) (h : m ≤ 255) : (St.new 0 0 2000 1000).take ((4 * m : Nat) : Int) = (LB ((4 * m : Nat) : Int) 0, true) := by
  have e : St.new 0 0 2000 1000 = { w := 0, h := 0, b := 2000, s := 1000, by_ := 0, pk := 0, st := 0, r := 0, a := 0 } := by rfl
  rw [e]
  unfold St.take
  rw [if_neg (by simp), if_neg (by simp only; omega)]
  simp [LB, up]
  omega

theorem own_form {w : World} {base n : Nat} {e : TypeId} {sz : Nat} {v : Value} {xs : List Value} (h : w.ownsRow base e sz v n xs) : ∃ a c, v = .slice a n c := by
  rcases h.2 with ⟨h1, h2⟩ | ⟨g, cap, _, h1, _⟩
  · exact ⟨none, 0, by rw [h1, h2]⟩
  · exact ⟨_, cap, h1⟩

/-- At the head of the loop over the colours that are added. -/
structure WI2 (W : World) (p b l g m : Nat) (C : Nat → Nat → Int) (base k : Nat) (v : Value) (w : World) : Prop where
  po : ∃ S, Po p b l g (min k m) m S w ∧ EntOf S (min k m) C
  led : Led l (LB ((4 * m : Nat) : Int) 0).ls w
  own : w.ownsRow base 24 4 v (min k m) (cellsOf C (min k m))
  gb : W.grownBy w none
  bs : base ≤ w.heap.size

/-- Behind it, and from there on: n entries, as many in the row. -/
structure WEnd (W : World) (p b l g m n : Nat) (D : Nat → Nat → Int) (base : Nat) (v : Value) (w : World) : Prop where
  po : ∃ S, Po p b l g n m S w ∧ EntOf S n D
  led : ∃ st, (0 : Int) ≤ st ∧ st ≤ 1000 ∧ Led l (LB ((4 * m : Nat) : Int) st).ls w
  own : w.ownsRow base 24 4 v n (cellsOf D n)
  gb : W.grownBy w none
  bs : base ≤ w.heap.size
theorem WEnd.grown {W : World} {p b l g m n : Nat} {D : Nat → Nat → Int} {base : Nat} {v : Value} {w w' : World} (h : WEnd W p b l g m n D base v w) (k : w.grownBy w' none) : WEnd W p b l g m n D base v w' := by
  obtain ⟨S, h1, h2⟩ := h.po
  obtain ⟨st, a, b', c⟩ := h.led
  exact ⟨⟨S, h1.grown k (by simp) (by simp) (by simp), h2⟩, ⟨st, a, b', c.grown k (by simp)⟩, own_grown h.own k, gb_trans h.gb k, Nat.le_trans h.bs k.size⟩

theorem WI2.same {W : World} {p b l g m : Nat} {C : Nat → Nat → Int} {base k : Nat} {v : Value} {w w' : World} (h : WI2 W p b l g m C base k v w) (hk : m ≤ k) (q : w.grownBy w' none) : WI2 W p b l g m C base (k + 1) v w' := by
  obtain ⟨S, h1, h2⟩ := h.po
  have e : min (k + 1) m = min k m := by omega
  refine ⟨⟨S, by rw [e]; exact h1.grown q (by simp) (by simp) (by simp), by rw [e]; exact h2⟩, h.led.grown q (by simp), by rw [e]; exact own_grown h.own q, gb_trans h.gb q, Nat.le_trans h.bs q.size⟩

/-- Between Add and append. -/
structure WMid (W : World) (p b l g m : Nat) (C : Nat → Nat → Int) (base k : Nat) (v : Value) (w : World) : Prop where
  po : ∃ S, Po p b l g (k + 1) m S w ∧ EntOf S (k + 1) C
  led : Led l (LB ((4 * m : Nat) : Int) 0).ls w
  own : w.ownsRow base 24 4 v k (cellsOf C k)
  gb : W.grownBy w none
  bs : base ≤ w.heap.size

theorem WI2.add {W : World} {p b l g m : Nat} {C : Nat → Nat → Int} {base k : Nat} {v : Value} {w w5 w6 : World} (h : WI2 W p b l g m C base k v w) (hk : k < m) (ga : w.grownBy w5 none)
    (hp : ∃ S, Po p b l g (k + 1) m S w6 ∧ EntOf S (k + 1) C ∧ Tn w5 w6 [p, g]) (hpb : p < base) (hgb : g < base) (hWp : W.heap.size ≤ p) (hWg : W.heap.size ≤ g) : WMid W p b l g m C base k v w6 := by
  obtain ⟨S, h1, h2, t⟩ := hp
  have e : min k m = k := by omega
  have own := h.own
  rw [e] at own
  have l5 := h.led.grown ga (by simp)
  refine ⟨⟨S, h1, h2⟩, (t.block l l5.lt (by simp [h1.pl.symm, h1.buf.gl.symm])).trans l5, own_turned (own_grown own ga) t (fun y hy => ?_), Tn.own (gb_trans h.gb ga) t (fun y hy => ?_), Nat.le_trans h.bs (Nat.le_trans ga.size t.size)⟩
  · have := (own.lt y hy).1
    simp
    omega
  · simp at hy
    rcases hy with rfl | rfl
    · exact .inl hWp
    · exact .inl hWg

theorem WMid.app {W : World} {p b l g m : Nat} {C : Nat → Nat → Int} {base k : Nat} {v v' : Value} {w w7 w8 : World} (h : WMid W p b l g m C base k v w) (hk : k < m) (ga : w.grownBy w7 none)
    (hown : w8.ownsRow base 24 4 v' (k + 1) (cellsOf C (k + 1))) (hg : w7.grownBy w8 v.ownBlock) (hp : p < base) (hb : b < base) (hgg : g < base) (hl : l < base) (hW : W.heap.size ≤ base) : WI2 W p b l g m C base (k + 1) v' w8 := by
  obtain ⟨S, h1, h2⟩ := h.po
  have e : min (k + 1) m = k + 1 := by omega
  have ne : ∀ y, y < base → some y ≠ v.ownBlock := fun y hy h' => by
    have := (h.own.lt y h'.symm).1
    omega
  refine ⟨⟨S, by rw [e]; exact (h1.grown ga (by simp) (by simp) (by simp)).grown hg (ne p hp) (ne b hb) (ne g hgg), by rw [e]; exact h2⟩, (h.led.grown ga (by simp)).grown hg (ne l hl), by rw [e]; exact hown, gb_row (gb_trans h.gb ga) hg (fun y hy => by have := (h.own.lt y hy).1; omega), Nat.le_trans h.bs (Nat.le_trans ga.size hg.size)⟩

end Go.Proofs.Ytljbhahdaepecaa.Pa
