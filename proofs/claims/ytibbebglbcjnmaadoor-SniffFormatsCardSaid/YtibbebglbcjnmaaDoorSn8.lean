/- Layer 30: a row of bytes of the call's own that grows. -/
import Derived.Test.YtibbebglbcjnmaaDoorSn7
import Derived.Deep.AppendLies
import Derived.Laws.AppendOwn
import Derived.Laws.BytesString
import Derived.Lib.ConvBytes
import Derived.Lib.SlBytesRow
import Derived.Lib.AppendStr
namespace Go.Proofs.YtibbebglbcjnmaaDoor.Sn
open Go.ChangeShapes Go.WideShapes Go.ChangeAt Go.RowKit
open Go.Proofs.YtibbebglbcjnmaaDoor.Le Go.Proofs.YtibbebglbcjnmaaDoor.Tk
set_option linter.unusedVariables false

theorem und8p : Tryd.prog.underlying 42 = some (.slice 5) := by kernel_rfl
theorem gb_rowq {W w w' : World} {v : Value} {B n k : Nat} {e : TypeId} {xs : List Value} (g : W.grownBy w none) (O : w.ownsRow B e k v n xs) (hB : W.heap.size ≤ B) (h : w.grownBy w' v.ownBlock) : W.grownBy w' none := by
  cases e : v.ownBlock with
  | none =>
    rw [e] at h
    exact gb_trans g h
  | some q =>
    rw [e] at h
    have := (O.lt q e).1
    exact gb_own g (by omega) h
structure YB (W w : World) (tv : Value) (L : List UInt8) : Prop where
  own : w.ownsRow W.heap.size 5 1 tv L.length (Lib.byteCells L)
  g : W.grownBy w none
  sh : ∃ g2 c2, tv = .slice (some ⟨g2, 0, none⟩) L.length c2
theorem YB.gb {W w w' : World} {tv : Value} {L : List UInt8} (h : YB W w tv L) (q : w.grownBy w' none) : YB W w' tv L := ⟨h.own.kept q (by cases e : tv.ownBlock <;> simp), gb_trans h.g q, h.sh⟩
theorem YB.start (W : World) : YB W (W.alloc (.cells #[] 5)) (.slice (some ⟨W.heap.size, 0, none⟩) 0 0) [] :=
  ⟨World.ownsRow_made W #[] 0 (Nat.le_refl _) (by unfold maxLen; omega) (by simp), World.grownBy_alloc _ _ _, ⟨_, _, rfl⟩⟩
theorem byte_one (l : List UInt8) : ∀ u ∈ Lib.byteCells l, u.oneCell' = true := by
  intro u hu
  simp only [Lib.byteCells, List.mem_map] at hu
  obtain ⟨x, _, rfl⟩ := hu
  rfl
theorem infoY : ∃ i, Tryd.prog.info? 5 = some i ∧ i.zero = some (.int .u8 0) ∧ i.size = 1 ∧ i.bytes = 1 := info_parts (by kernel_rfl)
/-- Bytes that a literal holds are put behind it. -/
theorem YB.app {W u : World} {tv : Value} {L : List UInt8} {ops : Array Oper} {rest : List Oper} {o : Oper} {a : Act} {Q : Exit → Act → World → Prop} {s x : Operand} {cs : Array Value} (l : List UInt8) (n : Nat) (H : YB W u tv L) (hcs : cs = (Lib.byteCells l).toArray) (hn : l.length = n) (hn1 : 0 < n) (hm : L.length + n ≤ 4000000)
    (hgd : o.guard = none) (ho : o.op = .call { callee := .builtin .append, args := #[s, x], argTypes := #[42, 42] }) (hs : a.eval s = tv) (hx : a.eval x = .slice (some ⟨u.heap.size, 0, none⟩) n n)
    (hh : ∀ t' w', YB W w' t' (L ++ l) → wpList Tryd.prog ops Q rest (a.put o.dst t') w') : wpList Tryd.prog ops Q (o :: rest) a (u.alloc (.cells cs 5)) := by
  subst hcs
  obtain ⟨i0, hi0, hz0, hz1, hz2⟩ := infoY
  have H1 := H.gb (World.grownBy_alloc u (.cells (Lib.byteCells l).toArray 5) none)
  have hl : (Lib.byteCells l).length = n := by rw [Lib.byteCells_length, hn]
  refine wpList_append_lies (u.alloc (.cells (Lib.byteCells l).toArray 5)) hgd s x 42 ho W.heap.size 5 i0 _ 1 1 und8p hi0 hz0 hz1 hz2 rfl (by decide) tv L.length (Lib.byteCells L) hs H1.own ⟨u.heap.size, 0, none⟩ n n (Lib.byteCells l) hx (by rw [hl, Nat.mul_one]) ?_ (byte_one l) hn1 (by unfold maxLen; omega) (by omega)
    H1.g.size _ rfl (fun g cap w' h1 h2 _ _ => hh _ w' ⟨by rw [List.length_append, hn, Lib.byteCells_append]; exact h1, gb_rowq H1.g H1.own (Nat.le_refl _) h2, ⟨g, cap, by rw [List.length_append, hn]⟩⟩)
  exact World.news_of_block (cs := (Lib.byteCells l).toArray) (t := 5) (fr := (0, 0)) (heap_alloc_new u _)
theorem YB.conv {W w : World} {tv : Value} {L : List UInt8} (h : YB W w tv L) : (convert 42 9 tv).run Tryd.prog w = .ok (.string ⟨L.toArray⟩) w := by
  obtain ⟨g2, c2, rfl⟩ := h.sh
  have hb : Lib.Bytes w g2 0 ⟨L.toArray⟩ := fun i hi => by
    have hi' : i < L.length := by have := hi; rw [Lib.size_eq] at this; simpa using this
    have h1 := World.ownsRow.cells h.own (g := g2) rfl i (.int .u8 (((⟨L.toArray⟩ : ByteArray)[i]'hi).toNat : Int)) (by
      unfold Lib.byteCells
      rw [List.getElem?_map, List.getElem?_eq_getElem hi']
      rfl)
    have hadd : (⟨g2, 0, none⟩ : Addr).add i = ⟨g2, 0 + i, none⟩ := by unfold Addr.add; split <;> simp_all
    rwa [hadd] at h1
  have := Lib.run_convert_whole (P := Tryd.prog) w 42 5 9 und8p (by kernel_rfl) (by kernel_rfl) g2 0 ⟨L.toArray⟩ hb c2
  have hsz : (⟨L.toArray⟩ : ByteArray).size = L.length := by rw [Lib.size_eq]
  rw [hsz] at this
  exact this


end Go.Proofs.YtibbebglbcjnmaaDoor.Sn
