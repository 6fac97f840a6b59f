/- Texts of one kind, one behind the other: Tga5. -/
import Derived.Deep.Cut
import Derived.Lib.SlBytesRow
import Derived.Test.YtgkeopgccocmkaaGreatG20
/- Layer 16: a head's bytes, walked: some eighteen bytes (written by tga5.py). -/
namespace Go.Proofs.YtgkeopgccocmkaaGreat.Tg
open Go.ChangeShapes Go.WideShapes Go.ChangeAt Go.RowKit
open Go.Proofs.YtgkeopgccocmkaaGreat.Le Go.Proofs.YtgkeopgccocmkaaGreat.Sr
set_option linter.unusedVariables false

theorem abs_w5 {Q R : World → Prop} {w : World} (h : R w) (k : ∀ w', R w' → Q w') : Q w := k w h
theorem push_at (w : World) (o o' : Obj) (h : o = o') : (w.heap.push o)[w.heap.size]? = some o' := by rw [h]; simp
def u8v (b : UInt8) : Value := .int .u8 (b.toNat : Int)
/-- Block c is eighteen bytes. -/
def U8 (c : Nat) (w : World) : Prop := ∃ L : List UInt8, L.length = 18 ∧ w.heap[c]? = some (.cells (L.map u8v).toArray 5 (0, 0))
theorem U8.cell {c : Nat} {w : World} (h : U8 c w) (i : Nat) (hi : i < 18) : ∃ x : Int, w.cell? ⟨c, i, none⟩ = some (.int .u8 x) ∧ w.frozen? ⟨c, i, none⟩ = false ∧ 0 ≤ x ∧ x ≤ 255 := by
  obtain ⟨L, hL, hb⟩ := h
  have hi' : i < L.length := by omega
  refine ⟨((L[i]'hi').toNat : Int), ?_, blk_free hb i, by omega, by have := (L[i]'hi').toNat_lt; omega⟩
  have := blk_cell hb i
  rw [this]
  simp [u8v, hi']
theorem U8.set {c : Nat} {w : World} (h : U8 c w) (i : Nat) (x : Int) (hx : 0 ≤ x ∧ x ≤ 255) : U8 c (w.setCell ⟨c, i, none⟩ (.int .u8 x)) := by
  obtain ⟨L, hL, hb⟩ := h
  refine ⟨L.set i (UInt8.ofNat x.toNat), by simp [hL], ?_⟩
  have e : u8v (UInt8.ofNat x.toNat) = .int .u8 x := by
    unfold u8v
    congr 1
    rw [UInt8.toNat_ofNat']
    omega
  have := blk_set hb i (.int .u8 x)
  rw [this, List.map_set, e]
  simp
theorem U8.conv {c : Nat} {w : World} (h : U8 c w) : ∃ z : ByteArray, z.size = 18 ∧ (convert 130 9 (.slice (some ⟨c, 0, none⟩) 18 18)).run Tryz.prog w = .ok (.string z) w := by
  obtain ⟨L, hL, hb⟩ := h
  have hz : (⟨L.toArray⟩ : ByteArray).size = 18 := by show L.toArray.size = 18; simp [hL]
  refine ⟨⟨L.toArray⟩, hz, ?_⟩
  have hc : Lib.Bytes w c 0 ⟨L.toArray⟩ := by
    intro i hi
    have hi' : i < L.length := by rw [hz] at hi; omega
    have := blk_cell hb (0 + i)
    rw [this]
    simp [u8v, hi']
    rfl
  have := Lib.run_convert_whole (P := Tryz.prog) w 130 5 9 (by kernel_rfl) (by kernel_rfl) (by kernel_rfl) c 0 ⟨L.toArray⟩ hc 18
  rw [hz] at this
  exact this
theorem u8r (x : Int) : 0 ≤ IntKind.u8.wrap x ∧ IntKind.u8.wrap x ≤ 255 := by rw [IntKind.wrap_u8]; omega
theorem u8b (op : BinOp) (x y : Int) : 0 ≤ bits op .u8 x y ∧ bits op .u8 x y ≤ 255 := by unfold bits; exact u8r _

/-- A head's fields in block b, eighteen bytes in block c. -/
structure TI (W : World) (b c : Nat) (A : Array Value) (w : World) : Prop where
  u : U8 c w
  h : w.heap[b]? = some (.cells A 35 (0, 0))
  gb : W.grownBy w none
  cW : W.heap.size ≤ c
  ne : b ≠ c
theorem TI.set {W w : World} {b c : Nat} {A : Array Value} (h : TI W b c A w) {i : Nat} {x : Int} (hx : 0 ≤ x ∧ x ≤ 255) : TI W b c A (w.setCell ⟨c, i, none⟩ (.int .u8 x)) :=
  ⟨h.u.set i x hx, blk_other h.h h.ne, gb_own h.gb h.cW (gb_set _ _ _ _), h.cW, h.ne⟩

end Go.Proofs.YtgkeopgccocmkaaGreat.Tg
