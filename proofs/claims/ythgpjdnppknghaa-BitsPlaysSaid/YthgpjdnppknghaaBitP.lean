/- Layer 6: the law BitsPlays: what holds ahead of each count, and what a round makes of it. -/
import Derived.Test.YthgpjdnppknghaaAll2
namespace Go.Proofs.Ythgpjdnppknghaa.Bi
open Go.ChangeShapes Go.WideShapes Go.ChangeAt Go.RowKit
open Go.Proofs.Ythgpjdnppknghaa.Le Go.Proofs.Ythgpjdnppknghaa.Sr
set_option linter.unusedVariables false

/-- A reader at bit a, and the document's bits beside it. -/
structure PI (W : World) (base r c l : Nat) (s : ByteArray) (low : Bool) (v : Value) (a : Nat) (wr : World) : Prop where
  rs : ∃ (p left : Nat) (last : Int), RS 1000 r c l s a low p left last wr ∧ left ≤ 7
  row : wr.ownsRow base 3 1 v (8 * s.size) (bl low s (8 * s.size))
  le : a ≤ 8 * s.size
  rb : r < base
  cb : c < base
  lb : l < base
  rw_ : W.heap.size ≤ r
  cw : W.heap.size ≤ c
  lw : W.heap.size ≤ l
  own : W.grownBy wr none

theorem PI.read {W : World} {base r c l : Nat} {s : ByteArray} {low : Bool} {v : Value} {a a' : Nat} {wr w : World} (h : PI W base r c l s low v a wr) {p left : Nat} {last : Int} (R : RS 1000 r c l s a' low p left last w) (h7 : left ≤ 7) (hle : a' ≤ 8 * s.size) (t : Tn wr w [r, c, l]) : PI W base r c l s low v a' w :=
  ⟨⟨p, left, last, R, h7⟩, row_turn h.row t (by have := h.rb; have := h.cb; have := h.lb; simp; omega), hle, h.rb, h.cb, h.lb, h.rw_, h.cw, h.lw, Tn.own h.own t (by have := h.rw_; have := h.cw; have := h.lw; simp; omega)⟩

/-- Align: the rest of the byte is left out. -/
theorem RS.aligned {m r c l : Nat} {s : ByteArray} {a : Nat} {low : Bool} {p left : Nat} {last : Int} {w w' : World} (h : RS m r c l s a low p left last w) (B : Bt r c last 0 low w') (g : w.grownBy w' (some r)) : RS m r c l s (a + left) low p 0 last w' :=
  ⟨B, h.so.grown g (by have := h.bt.rc; simp; omega), h.led.grown g (by have := h.rl; simp; omega), h.rl, by have := h.pos; omega, by omega, fun q hq e h0 => by omega, h.sm, h.mb⟩

theorem RS.lost {m r c l : Nat} {s : ByteArray} {a : Nat} {low : Bool} {p left : Nat} {last : Int} {w : World} (h : RS m r c l s a low p left last w) (h7 : left ≤ 7) : (8 - a % 8) % 8 = left ∧ (a + 7) / 8 = p ∧ p ≤ s.size := by
  have := h.pos
  have := h.so.pt
  omega

theorem PI.align {W : World} {base r c l : Nat} {s : ByteArray} {low : Bool} {v : Value} {a : Nat} {wr w : World} (h : PI W base r c l s low v a wr) {p left : Nat} {last : Int} (R : RS 1000 r c l s a low p left last wr) (h7 : left ≤ 7) (B : Bt r c last 0 low w) (g : wr.grownBy w (some r)) : PI W base r c l s low v (a + left) w :=
  h.read (R.aligned B g) (by omega) (by have := R.pos; have := (R.lost h7).2.2; omega) (Tn.gb g (by simp))

end Go.Proofs.Ythgpjdnppknghaa.Bi
