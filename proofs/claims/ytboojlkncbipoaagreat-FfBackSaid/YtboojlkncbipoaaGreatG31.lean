/- Texts of one kind, one behind the other: Gr1. -/
import Derived.Test.YtboojlkncbipoaaGreatG28
import Derived.Test.YtboojlkncbipoaaGreatG29
import Derived.Test.YtboojlkncbipoaaGreatG30
/- A strings.Builder in a block of its own: it grows, a byte, a text, its String. -/
namespace Go.Proofs.YtboojlkncbipoaaGreat.Bd
open Go.ChangeShapes Go.WideShapes Go.ChangeAt Go.RowKit Go.Proofs.YtboojlkncbipoaaGreat.Le
set_option linter.unusedVariables false

/-- A used builder in block b, of the call's own, that holds the bytes bs. -/
def Ow (b : Nat) (bs : List UInt8) (w : World) : Prop := ∃ L, Bo 107 #[.pointer (some ⟨b, 0, none⟩), L] b 0 (b + 1) (.pointer (some ⟨b, 0, none⟩)) L bs w
theorem own_up {w : World} {b : Nat} {e : TypeId} {k n : Nat} {v : Value} {xs : List Value} (h : w.ownsRow b e k v n xs) (hne : v.ownBlock ≠ some b) : w.ownsRow (b + 1) e k v n xs := by
  refine ⟨h.1, h.2.elim .inl (fun ⟨g, cap, cur, hv, hg, r⟩ => .inr ⟨g, cap, cur, hv, ?_, r⟩)⟩
  have : g ≠ b := fun e => hne (by rw [hv, ← e]; rfl)
  omega
theorem lies0 : liesAt Tryz.prog Tryz.prog.depth 107 ((2 : Nat) / Tryz.prog.cellsOf 107) 0 107 1 = true := by kernel_rfl
theorem grow_calls (b n : Nat) (w : World) (hbk : w.heap[b]? = some (.cells #[.pointer none, .slice none 0 0] 107 (0, 0))) (hn : n ≤ 281474976710656) :
    Calls Tryz.prog 76 #[.pointer (some ⟨b, 0, none⟩), .int .i64 (n : Int)] w fun e w' => e = .returned (.tuple #[]) ∧ Ow b [] w' ∧ Fr b (b + 1) w w' := by
  have hlt : b < w.heap.size := blk_lt hbk
  refine (Tryz.Builder_Grow_fresh b b n w (Nat.le_refl _) hbk (by omega) hn).mono ?_
  rintro e w' ⟨rfl, ⟨_, L, h1, h2, h3⟩, f⟩
  have hs : w.heap.size ≤ w'.heap.size := f.size
  exact ⟨rfl, ⟨L, h1, rfl, rfl, own_up h2 h3, Nat.lt_succ_self b, by omega⟩, ⟨f.os, f.tape, f.output, f.size, fun k h1 h2 => f.block k (by omega)⟩⟩
theorem byte1 (b : Nat) (bs : List UInt8) (c : UInt8) (w : World) (h : Ow b bs w) (hlen : bs.length ≤ 1000000) :
    Calls Tryz.prog 77 #[.pointer (some ⟨b, 0, none⟩), .int .u8 (c.toNat : Int)] w fun e w' => e = .returned .nilIface ∧ Ow b (bs ++ [c]) w' ∧ Fr b (b + 1) w w' := by
  obtain ⟨L, h⟩ := h
  refine (byte_calls _ _ b 0 (b + 1) _ L bs c w h (.inr rfl) lies0 hlen).mono ?_
  rintro e w' ⟨rfl, ⟨L', h'⟩, f⟩
  exact ⟨rfl, ⟨L', h'⟩, f⟩
theorem text1 (b : Nat) (bs : List UInt8) (z : ByteArray) (w : World) (h : Ow b bs w) (hlen : bs.length + z.size ≤ 1000000) :
    Calls Tryz.prog 67 #[.pointer (some ⟨b, 0, none⟩), .string z] w fun e w' => e = .returned (.tuple #[.int .i64 z.size, .nilIface]) ∧ Ow b (bs ++ z.data.toList) w' ∧ Fr b (b + 1) w w' := by
  obtain ⟨L, h⟩ := h
  refine (text_calls _ _ b 0 (b + 1) _ L bs z w h (.inr rfl) lies0 hlen).mono ?_
  rintro e w' ⟨rfl, ⟨L', h'⟩, f⟩
  exact ⟨rfl, ⟨L', h'⟩, f⟩
theorem string1 (b : Nat) (bs : List UInt8) (w : World) (h : Ow b bs w) (h0 : bs ≠ []) (hlen : bs.length ≤ 1000000) :
    Calls Tryz.prog 70 #[.pointer (some ⟨b, 0, none⟩)] w fun e w' => e = .returned (.string ⟨bs.toArray⟩) ∧ Fr b (b + 1) w w' := by
  obtain ⟨L, h⟩ := h
  exact string_calls _ _ b 0 (b + 1) _ L bs w h h0 hlen
theorem Ow.kept {b : Nat} {bs : List UInt8} {w w' : World} (h : Ow b bs w) (g : w.grownBy w' none) : Ow b bs w' := by
  obtain ⟨L, h⟩ := h
  exact ⟨L, (g.block b (blk_lt h.blk) (by simp)).trans h.blk, h.c0, h.c1, h.own.kept g (by cases e : L.ownBlock <;> simp), h.lt, Nat.le_trans h.Bw g.size⟩

end Go.Proofs.YtboojlkncbipoaaGreat.Bd
