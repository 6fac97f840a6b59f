/- Layer 21: the document's Pack: a bit put behind the row; what a bit is (written by wip/gen/rw6.py). -/
import Derived.Test.YtafglaiclpdhnaaRw5
import Derived.Deep.AppendLies
namespace Go.Proofs.Ytafglaiclpdhnaa.Rw
open Go.ChangeShapes Go.WideShapes Go.ChangeAt Go.RowKit
open Go.Proofs.Ytafglaiclpdhnaa.Le Go.Proofs.Ytafglaiclpdhnaa.Sc
set_option linter.unusedVariables false

theorem one_bit (z : Int) : ∀ u ∈ [Value.int .i64 z], u.oneCell' = true := by
  intro u hu
  simp at hu
  subst hu
  rfl
def bitB (z : Int) : Obj := .cells #[.int .i64 z] 3
section
variable {W u : World} {d n m : Nat} {v : Nat → Int} {tv : Value}
theorem bit_app {ops : Array Oper} {rest : List Oper} {o : Oper} {a : Act} {Q : Exit → Act → World → Prop} {s x : Operand} (z : Int) (H : BO W u d n v tv m) (hm : m ≤ 8000) (hb : bitF d n v m = z)
    (hgd : o.guard = none) (ho : o.op = .call { callee := .builtin .append, args := #[s, x], argTypes := #[22, 22] }) (hs : a.eval s = tv) (hx : a.eval x = .slice (some ⟨u.heap.size, 0, none⟩) 1 1)
    (hh : ∀ tv' w', BO W w' d n v tv' (m + 1) → wpList Try.prog ops Q rest (a.put o.dst tv') w') : wpList Try.prog ops Q (o :: rest) a (u.alloc (bitB z)) := by
  obtain ⟨i0, hi0, hz0, hz1, hz2⟩ := infoI
  have H1 := H.gb (World.grownBy_alloc u (bitB z) none)
  refine wpList_append_lies (u.alloc (bitB z)) hgd s x 22 ho W.heap.size 3 i0 _ 1 8 undI hi0 hz0 hz1 hz2 rfl (by decide) tv m (bl d n v m) hs H1.own ⟨u.heap.size, 0, none⟩ 1 1 [.int .i64 z] hx rfl ?_ (one_bit z) (by decide) (by unfold maxLen; omega) (by omega)
    H1.g.size _ rfl (fun g cap w' h1 h2 _ _ => hh _ w' (H1.app h1 hb h2))
  exact World.news_of_block (cs := #[.int .i64 z]) (t := 3) (fr := (0, 0)) (heap_alloc_new u _)
theorem bit_step {ops : Array Oper} {o : Oper} {a : Act} {K : Act → World → Prop} {Q : Exit → Act → World → Prop} {E : Prop} {s x : Operand} (z : Int) (H : BO W u d n v tv m) (hm : m ≤ 8000) (hb : bitF d n v m = z)
    (hgd : o.guard = none) (ho : o.op = .call { callee := .builtin .append, args := #[s, x], argTypes := #[22, 22] }) (hs : a.eval s = tv) (hx : a.eval x = .slice (some ⟨u.heap.size, 0, none⟩) 1 1)
    (hh : ∀ tv' w', BO W w' d n v tv' (m + 1) → K (a.put o.dst tv') w') :
    if Region.wanted o (yielded ops a.tmps) = true then Oper.wp Try.prog o a (u.alloc (bitB z)) K Q else E := by
  obtain ⟨i0, hi0, hz0, hz1, hz2⟩ := infoI
  have H1 := H.gb (World.grownBy_alloc u (bitB z) none)
  refine step_append_lies (u.alloc (bitB z)) hgd s x 22 ho W.heap.size 3 i0 _ 1 8 undI hi0 hz0 hz1 hz2 rfl (by decide) tv m (bl d n v m) hs H1.own ⟨u.heap.size, 0, none⟩ 1 1 [.int .i64 z] hx rfl ?_ (one_bit z) (by decide) (by unfold maxLen; omega) (by omega)
    H1.g.size _ rfl (fun g cap w' h1 h2 _ _ => hh _ w' (H1.app h1 hb h2))
  exact World.news_of_block (cs := #[.int .i64 z]) (t := 3) (fr := (0, 0)) (heap_alloc_new u _)
end
theorem BO.start (W : World) (d n : Nat) (v : Nat → Int) : BO W (W.alloc (.cells #[] 3)) d n v (.slice (some ⟨W.heap.size, 0, none⟩) 0 0) 0 :=
  ⟨World.ownsRow_made W #[] 0 (Nat.le_refl _) (by unfold maxLen; omega) (by simp), World.grownBy_alloc _ _ _⟩

theorem place {d i c : Nat} (hc : c < d) : (i * d + c) / d = i ∧ (i * d + c) % d = c := by
  have hd : 0 < d := by omega
  constructor
  · rw [Nat.mul_comm, Nat.mul_add_div hd, Nat.div_eq_of_lt hc, Nat.add_zero]
  · rw [Nat.mul_comm, Nat.mul_add_mod, Nat.mod_eq_of_lt hc]
theorem inrow {d n i c : Nat} (hi : i < n) (hc : c < d) : i * d + c < n * d := by
  have h : (i + 1) * d ≤ n * d := Nat.mul_le_mul_right d hi
  rw [Nat.succ_mul] at h
  omega
theorem bit_low (d n : Nat) (v : Nat → Int) {i c : Nat} (h8 : d < 8) (hi : i < n) (hc : c < d) : bitF d n v (i * d + c) = v i / 2 ^ (d - 1 - c) % 2 := by
  obtain ⟨h1, h2⟩ := place (i := i) hc
  unfold bitF
  rw [if_pos (inrow hi hc), if_pos h8, h1, h2]
theorem bit_high (d n : Nat) (v : Nat → Int) {i b k : Nat} (h8 : 8 ≤ d) (hd : okD d) (hi : i < n) (hb : b < d / 8) (hk : k < 8) : bitF d n v (i * d + (8 * b + k)) = v i / 2 ^ (8 * b) % 256 / 2 ^ (7 - k) % 2 := by
  have hc : 8 * b + k < d := by omega
  obtain ⟨h1, h2⟩ := place (i := i) hc
  have hm : (i * d + (8 * b + k)) % 8 = k := by
    rcases hd with rfl | rfl | rfl | rfl | rfl | rfl <;> omega
  unfold bitF
  rw [if_pos (inrow hi hc), if_neg (by omega), h1, h2, hm, show (8 * b + k) / 8 = b by omega]
theorem pw_two (k : Nat) : pw k = 2 ^ k := by
  unfold pw
  simp

end Go.Proofs.Ytafglaiclpdhnaa.Rw
