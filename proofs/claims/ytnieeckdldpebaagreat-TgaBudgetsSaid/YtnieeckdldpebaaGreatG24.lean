/- Texts of one kind, one behind the other: Tga5. -/
import Derived.Deep.Cut
import Derived.Lib.SlBytesRow
import Derived.Test.YtnieeckdldpebaaGreatG20
/- Layer 16: a head's bytes, walked: some eighteen bytes (written by tga5.py). -/
namespace Go.Proofs.YtnieeckdldpebaaGreat.Tg
open Go.ChangeShapes Go.WideShapes Go.ChangeAt Go.RowKit
open Go.Proofs.YtnieeckdldpebaaGreat.Le Go.Proofs.YtnieeckdldpebaaGreat.Sr
set_option linter.unusedVariables false

theorem abs_w5 {Q R : World → Prop} {w : World} (h : R w) (k : ∀ w', R w' → Q w') : Q w := k w h
theorem push_at (w : World) (o o' : Obj) (h : o = o') : (w.heap.push o)[w.heap.size]? = some o' := by rw [h]; simp
def u8v (b : UInt8) : Value := .int .u8 (b.toNat : Int)
/-- Block c is eighteen bytes. -/
def U8 (c : Nat) (w : World) : Prop := ∃ L : List UInt8, L.length = 18 ∧ w.heap[c]? = some (.cells (L.map u8v).toArray 5 (0, 0))
theorem U8.cell {c : Nat} {w : World} (h : U8 c w) (i : Nat) (hi : i < 18) : ∃ x : Int, w.cell? ⟨c, i, none⟩ = some (.int .u8 x) ∧ w.frozen? ⟨c, i, none⟩ = false ∧ 0 ≤ x ∧ x ≤ 255 := by
  obtain ⟨L, hL, hb⟩ := h
  have hi' : i < L.length := by omega
  refine ⟨((L[i]'hi').toNat : Int), ?_, blk_free hb i, by omega, by have := (L[i]'hi').toNat_lt; omega⟩
  have := blk_cell hb i
  rw [this]
  simp [u8v, hi']
theorem U8.set {c : Nat} {w : World} (h : U8 c w) (i : Nat) (x : Int) (hx : 0 ≤ x ∧ x ≤ 255) : U8 c (w.setCell ⟨c, i, none⟩ (.int .u8 x)) := by
  obtain ⟨L, hL, hb⟩ := h
  refine ⟨L.set i (UInt8.ofNat x.toNat), by simp [hL], ?_⟩
  have e : u8v (UInt8.ofNat x.toNat) = .int .u8 x := by
    unfold u8v
    congr 1
    rw [UInt8.toNat_ofNat']
    omega
  have := blk_set hb i (.int .u8 x)
  rw [this, List.map_set, e]
  simp
theorem U8.conv {c : Nat} {w : World} (h : U8 c w) : ∃ z : ByteArray, z.size = 18 ∧ (convert 25 9 (.slice (some ⟨c, 0, none⟩) 18 18)).run Tryz.prog w = .ok (.string z) w := by
  obtain ⟨L, hL, hb⟩ := h
  have hz : (⟨L.toArray⟩ : ByteArray).size = 18 := by show L.toArray.size = 18; simp [hL]
  refine ⟨⟨L.toArray⟩, hz, ?_⟩
  have hc : Lib.Bytes w c 0 ⟨L.toArray⟩ := by
    intro i hi
    have hi' : i < L.length := by rw [hz] at hi; omega
    have := blk_cell hb (0 + i)
    rw [this]
    simp [u8v, hi']
    rfl
  have := Lib.run_convert_whole (P := Tryz.prog) w 25 5 9 (by kernel_rfl) (by kernel_rfl) (by kernel_rfl) c 0 ⟨L.toArray⟩ hc 18
  rw [hz] at this
  exact this
theorem u8r (x : Int) : 0 ≤ IntKind.u8.wrap x ∧ IntKind.u8.wrap x ≤ 255 := by rw [IntKind.wrap_u8]; omega
theorem u8b (op : BinOp) (x y : Int) : 0 ≤ bits op .u8 x y ∧ bits op .u8 x y ≤ 255 := by unfold bits; exact u8r _

/-- A head's fields in block b, eighteen bytes in block c. -/
structure TI (W : World) (b c : Nat) (A : Array Value) (w : World) : Prop where
  u : U8 c w
  h : w.heap[b]? = some (.cells A 55 (0, 0))
  gb : W.grownBy w none
  cW : W.heap.size ≤ c
  ne : b ≠ c
theorem TI.set {W w : World} {b c : Nat} {A : Array Value} (h : TI W b c A w) {i : Nat} {x : Int} (hx : 0 ≤ x ∧ x ≤ 255) : TI W b c A (w.setCell ⟨c, i, none⟩ (.int .u8 x)) :=
  ⟨h.u.set i x hx, blk_other h.h h.ne, gb_own h.gb h.cW (gb_set _ _ _ _), h.cW, h.ne⟩

set_option maxRecDepth 100000 in
theorem put_calls (W : World) (b c : Nat) (A : Array Value) (k : Nat) (v : Int) (w : World) (hk : k + 1 < 18) (I : TI W b c A w) :
    Calls Tryz.prog 72 #[.slice (some ⟨c, 0, none⟩) 18 18, .int .i64 k, .int .i64 v] w fun e w' => e = .returned (.tuple #[]) ∧ TI W b c A w' := by
  obtain ⟨x0, q0, f0, _, _⟩ := I.u.cell k (by omega)
  obtain ⟨x1, q1, f1, _, _⟩ := I.u.cell (k + 1) (by omega)
  have i0 : (k : Int) < 18 := by omega
  have i1 : (k : Int) + 1 < 18 := by omega
  have s1 : IntKind.i64.wrap ((k : Int) + 1) = (k : Int) + 1 := by rw [IntKind.wrap_i64]; omega
  have HI := Lib.hid I
  clear I
  go_enter Tryz.func72, Tryz.ntmps72
  go_wp2
  first | go_end0 | (simp only [Exit.inBlock, Exit.then]; refine bodyPost_ret (results_none rfl _ _ _) rfl ?_) | refine bodyPost_ret (results_none rfl _ _ _) rfl ?_
  refine ⟨rfl, ?_⟩
  exact TI.set (TI.set HI.out (u8r _)) (u8r _)

set_option maxRecDepth 100000 in
set_option maxHeartbeats 4000000 in
theorem text_fff (n0 n2 n3 n4 n5 n6 n7 n8 n9 : Int) (W : World) :
    Calls Tryz.prog 43 #[.agg #[.int .i64 n0, .bool false, .int .i64 n2, .int .i64 n3, .int .i64 n4, .int .i64 n5, .int .i64 n6, .int .i64 n7, .int .i64 n8, .int .i64 n9, .bool false, .bool false]] W fun e w' => ∃ z : ByteArray, e = .returned (.string z) ∧ z.size = 18 ∧ W.grownBy w' none := by
    go_enter Tryz.func43, Tryz.ntmps43
    go_upto_region 2 with fail
    refine abs_w5 (R := TI W W.heap.size (W.heap.size + 1) #[.int .i64 n0, .bool false, .int .i64 n2, .int .i64 n3, .int .i64 n4, .int .i64 n5, .int .i64 n6, .int .i64 n7, .int .i64 n8, .int .i64 n9, .bool false, .bool false]) ?_ (fun w2 I => ?_)
    · refine ⟨⟨List.replicate 18 0, rfl, ?_⟩, ?_, ?_, by omega, by omega⟩
      · rw [← size_alloc W (.cells #[.int .i64 n0, .bool false, .int .i64 n2, .int .i64 n3, .int .i64 n4, .int .i64 n5, .int .i64 n6, .int .i64 n7, .int .i64 n8, .int .i64 n9, .bool false, .bool false] 55)]
        show ((W.alloc (.cells #[.int .i64 n0, .bool false, .int .i64 n2, .int .i64 n3, .int .i64 n4, .int .i64 n5, .int .i64 n6, .int .i64 n7, .int .i64 n8, .int .i64 n9, .bool false, .bool false] 55)).heap.push _)[(W.alloc (.cells #[.int .i64 n0, .bool false, .int .i64 n2, .int .i64 n3, .int .i64 n4, .int .i64 n5, .int .i64 n6, .int .i64 n7, .int .i64 n8, .int .i64 n9, .bool false, .bool false] 55)).heap.size]? = some _
        exact push_at _ _ _ (by kernel_rfl)
      · exact blk_al (w := W.alloc (.cells #[.int .i64 n0, .bool false, .int .i64 n2, .int .i64 n3, .int .i64 n4, .int .i64 n5, .int .i64 n6, .int .i64 n7, .int .i64 n8, .int .i64 n9, .bool false, .bool false] 55)) blk_at (.cells _ 5)
      · exact gb_trans (World.grownBy_alloc _ _ _) (World.grownBy_alloc (W.alloc (.cells #[.int .i64 n0, .bool false, .int .i64 n2, .int .i64 n3, .int .i64 n4, .int .i64 n5, .int .i64 n6, .int .i64 n7, .int .i64 n8, .int .i64 n9, .bool false, .bool false] 55)) (.cells _ 5) none)
    have a0 := blk_cell I.h 0
    have a1 := blk_cell I.h 1
    have a2 := blk_cell I.h 2
    have a3 := blk_cell I.h 3
    have a4 := blk_cell I.h 4
    have a5 := blk_cell I.h 5
    have a6 := blk_cell I.h 6
    have a7 := blk_cell I.h 7
    have a8 := blk_cell I.h 8
    have a9 := blk_cell I.h 9
    have a10 := blk_cell I.h 10
    have a11 := blk_cell I.h 11
    simp only [List.getElem?_toArray, List.getElem?_cons_succ, List.getElem?_cons_zero] at a0 a1 a2 a3 a4 a5 a6 a7 a8 a9 a10 a11
    obtain ⟨y0, q0, f0, l0, r0⟩ := I.u.cell 0 (by decide)
    obtain ⟨y1, q1, f1, l1, r1⟩ := I.u.cell 1 (by decide)
    obtain ⟨y2, q2, f2, l2, r2⟩ := I.u.cell 2 (by decide)
    have HI := Lib.hid I
    clear I
    go_wp2_with fail
    refine (put_calls W W.heap.size (W.heap.size + 1) #[.int .i64 n0, .bool false, .int .i64 n2, .int .i64 n3, .int .i64 n4, .int .i64 n5, .int .i64 n6, .int .i64 n7, .int .i64 n8, .int .i64 n9, .bool false, .bool false] 3 _ _ (by decide) (by (repeat' first | exact HI.out | exact u8r _ | exact u8b _ _ _ | exact ⟨by decide, by decide⟩ | refine TI.set ?_ ?_))).mono ?_
    rintro e w3 ⟨rfl, I3⟩
    clear a0 a1 a2 a3 a4 a5 a6 a7 a8 a9 a10 a11 q0 q1 q2 f0 f1 f2 HI
    have a0 := blk_cell I3.h 0
    have a1 := blk_cell I3.h 1
    have a2 := blk_cell I3.h 2
    have a3 := blk_cell I3.h 3
    have a4 := blk_cell I3.h 4
    have a5 := blk_cell I3.h 5
    have a6 := blk_cell I3.h 6
    have a7 := blk_cell I3.h 7
    have a8 := blk_cell I3.h 8
    have a9 := blk_cell I3.h 9
    have a10 := blk_cell I3.h 10
    have a11 := blk_cell I3.h 11
    simp only [List.getElem?_toArray, List.getElem?_cons_succ, List.getElem?_cons_zero] at a0 a1 a2 a3 a4 a5 a6 a7 a8 a9 a10 a11
    have HI := Lib.hid I3
    clear I3
    go_wp2_with fail
    refine (put_calls W W.heap.size (W.heap.size + 1) #[.int .i64 n0, .bool false, .int .i64 n2, .int .i64 n3, .int .i64 n4, .int .i64 n5, .int .i64 n6, .int .i64 n7, .int .i64 n8, .int .i64 n9, .bool false, .bool false] 5 _ _ (by decide) HI.out).mono ?_
    rintro e w4 ⟨rfl, I4⟩
    clear a0 a1 a2 a3 a4 a5 a6 a7 a8 a9 a10 a11 HI
    have a0 := blk_cell I4.h 0
    have a1 := blk_cell I4.h 1
    have a2 := blk_cell I4.h 2
    have a3 := blk_cell I4.h 3
    have a4 := blk_cell I4.h 4
    have a5 := blk_cell I4.h 5
    have a6 := blk_cell I4.h 6
    have a7 := blk_cell I4.h 7
    have a8 := blk_cell I4.h 8
    have a9 := blk_cell I4.h 9
    have a10 := blk_cell I4.h 10
    have a11 := blk_cell I4.h 11
    simp only [List.getElem?_toArray, List.getElem?_cons_succ, List.getElem?_cons_zero] at a0 a1 a2 a3 a4 a5 a6 a7 a8 a9 a10 a11
    obtain ⟨y7, q7, f7, l7, r7⟩ := I4.u.cell 7 (by decide)
    have HI := Lib.hid I4
    clear I4
    go_wp2_with fail
    refine (put_calls W W.heap.size (W.heap.size + 1) #[.int .i64 n0, .bool false, .int .i64 n2, .int .i64 n3, .int .i64 n4, .int .i64 n5, .int .i64 n6, .int .i64 n7, .int .i64 n8, .int .i64 n9, .bool false, .bool false] 12 _ _ (by decide) (by (repeat' first | exact HI.out | exact u8r _ | exact u8b _ _ _ | exact ⟨by decide, by decide⟩ | refine TI.set ?_ ?_))).mono ?_
    rintro e w5 ⟨rfl, I5⟩
    clear a0 a1 a2 a3 a4 a5 a6 a7 a8 a9 a10 a11 HI q7 f7
    have a0 := blk_cell I5.h 0
    have a1 := blk_cell I5.h 1
    have a2 := blk_cell I5.h 2
    have a3 := blk_cell I5.h 3
    have a4 := blk_cell I5.h 4
    have a5 := blk_cell I5.h 5
    have a6 := blk_cell I5.h 6
    have a7 := blk_cell I5.h 7
    have a8 := blk_cell I5.h 8
    have a9 := blk_cell I5.h 9
    have a10 := blk_cell I5.h 10
    have a11 := blk_cell I5.h 11
    simp only [List.getElem?_toArray, List.getElem?_cons_succ, List.getElem?_cons_zero] at a0 a1 a2 a3 a4 a5 a6 a7 a8 a9 a10 a11
    have HI := Lib.hid I5
    clear I5
    go_wp2_with fail
    refine (put_calls W W.heap.size (W.heap.size + 1) #[.int .i64 n0, .bool false, .int .i64 n2, .int .i64 n3, .int .i64 n4, .int .i64 n5, .int .i64 n6, .int .i64 n7, .int .i64 n8, .int .i64 n9, .bool false, .bool false] 14 _ _ (by decide) HI.out).mono ?_
    rintro e w6 ⟨rfl, I6⟩
    clear a0 a1 a2 a3 a4 a5 a6 a7 a8 a9 a10 a11 HI
    have a0 := blk_cell I6.h 0
    have a1 := blk_cell I6.h 1
    have a2 := blk_cell I6.h 2
    have a3 := blk_cell I6.h 3
    have a4 := blk_cell I6.h 4
    have a5 := blk_cell I6.h 5
    have a6 := blk_cell I6.h 6
    have a7 := blk_cell I6.h 7
    have a8 := blk_cell I6.h 8
    have a9 := blk_cell I6.h 9
    have a10 := blk_cell I6.h 10
    have a11 := blk_cell I6.h 11
    simp only [List.getElem?_toArray, List.getElem?_cons_succ, List.getElem?_cons_zero] at a0 a1 a2 a3 a4 a5 a6 a7 a8 a9 a10 a11
    obtain ⟨y16, q16, f16, l16, r16⟩ := I6.u.cell 16 (by decide)
    obtain ⟨y17, q17, f17, l17, r17⟩ := I6.u.cell 17 (by decide)
    have HI := Lib.hid I6
    clear I6
    go_upto_region 13 with fail
    refine abs_w5 (R := TI W W.heap.size (W.heap.size + 1) #[.int .i64 n0, .bool false, .int .i64 n2, .int .i64 n3, .int .i64 n4, .int .i64 n5, .int .i64 n6, .int .i64 n7, .int .i64 n8, .int .i64 n9, .bool false, .bool false]) (by (repeat' first | exact HI.out | exact u8r _ | exact u8b _ _ _ | exact ⟨by decide, by decide⟩ | refine TI.set ?_ ?_)) (fun w7 I7 => ?_)
    clear a0 a1 a2 a3 a4 a5 a6 a7 a8 a9 a10 a11 HI q16 f16 q17 f17
    have a0 := blk_cell I7.h 0
    have a1 := blk_cell I7.h 1
    have a2 := blk_cell I7.h 2
    have a3 := blk_cell I7.h 3
    have a4 := blk_cell I7.h 4
    have a5 := blk_cell I7.h 5
    have a6 := blk_cell I7.h 6
    have a7 := blk_cell I7.h 7
    have a8 := blk_cell I7.h 8
    have a9 := blk_cell I7.h 9
    have a10 := blk_cell I7.h 10
    have a11 := blk_cell I7.h 11
    simp only [List.getElem?_toArray, List.getElem?_cons_succ, List.getElem?_cons_zero] at a0 a1 a2 a3 a4 a5 a6 a7 a8 a9 a10 a11
    obtain ⟨y17, q17, f17, l17, r17⟩ := I7.u.cell 17 (by decide)
    have HI := Lib.hid I7
    clear I7
    go_upto_region 15 with fail
    refine abs_w5 (R := TI W W.heap.size (W.heap.size + 1) #[.int .i64 n0, .bool false, .int .i64 n2, .int .i64 n3, .int .i64 n4, .int .i64 n5, .int .i64 n6, .int .i64 n7, .int .i64 n8, .int .i64 n9, .bool false, .bool false]) (by (repeat' first | exact HI.out | exact u8r _ | exact u8b _ _ _ | exact ⟨by decide, by decide⟩ | refine TI.set ?_ ?_)) (fun w8 I8 => ?_)
    clear a0 a1 a2 a3 a4 a5 a6 a7 a8 a9 a10 a11 HI q17 f17
    have a0 := blk_cell I8.h 0
    have a1 := blk_cell I8.h 1
    have a2 := blk_cell I8.h 2
    have a3 := blk_cell I8.h 3
    have a4 := blk_cell I8.h 4
    have a5 := blk_cell I8.h 5
    have a6 := blk_cell I8.h 6
    have a7 := blk_cell I8.h 7
    have a8 := blk_cell I8.h 8
    have a9 := blk_cell I8.h 9
    have a10 := blk_cell I8.h 10
    have a11 := blk_cell I8.h 11
    simp only [List.getElem?_toArray, List.getElem?_cons_succ, List.getElem?_cons_zero] at a0 a1 a2 a3 a4 a5 a6 a7 a8 a9 a10 a11
    obtain ⟨y17, q17, f17, l17, r17⟩ := I8.u.cell 17 (by decide)
    have HI := Lib.hid I8
    clear I8
    go_upto_region 17 with fail
    refine abs_w5 (R := TI W W.heap.size (W.heap.size + 1) #[.int .i64 n0, .bool false, .int .i64 n2, .int .i64 n3, .int .i64 n4, .int .i64 n5, .int .i64 n6, .int .i64 n7, .int .i64 n8, .int .i64 n9, .bool false, .bool false]) (by (repeat' first | exact HI.out | exact u8r _ | exact u8b _ _ _ | exact ⟨by decide, by decide⟩ | refine TI.set ?_ ?_)) (fun w9 I9 => ?_)
    clear a0 a1 a2 a3 a4 a5 a6 a7 a8 a9 a10 a11 HI q17 f17
    obtain ⟨z, hz, hcv⟩ := I9.u.conv
    have HZ := Lib.hid hz
    have HI := Lib.hid I9.gb
    clear I9 hz
    go_wp2
    go_ret
    exact ⟨z, rfl, HZ.out, HI.out⟩

set_option maxRecDepth 100000 in
set_option maxHeartbeats 4000000 in
theorem text_fft (n0 n2 n3 n4 n5 n6 n7 n8 n9 : Int) (W : World) :
    Calls Tryz.prog 43 #[.agg #[.int .i64 n0, .bool false, .int .i64 n2, .int .i64 n3, .int .i64 n4, .int .i64 n5, .int .i64 n6, .int .i64 n7, .int .i64 n8, .int .i64 n9, .bool false, .bool true]] W fun e w' => ∃ z : ByteArray, e = .returned (.string z) ∧ z.size = 18 ∧ W.grownBy w' none := by
    go_enter Tryz.func43, Tryz.ntmps43
    go_upto_region 2 with fail
    refine abs_w5 (R := TI W W.heap.size (W.heap.size + 1) #[.int .i64 n0, .bool false, .int .i64 n2, .int .i64 n3, .int .i64 n4, .int .i64 n5, .int .i64 n6, .int .i64 n7, .int .i64 n8, .int .i64 n9, .bool false, .bool true]) ?_ (fun w2 I => ?_)
    · refine ⟨⟨List.replicate 18 0, rfl, ?_⟩, ?_, ?_, by omega, by omega⟩
      · rw [← size_alloc W (.cells #[.int .i64 n0, .bool false, .int .i64 n2, .int .i64 n3, .int .i64 n4, .int .i64 n5, .int .i64 n6, .int .i64 n7, .int .i64 n8, .int .i64 n9, .bool false, .bool true] 55)]
        show ((W.alloc (.cells #[.int .i64 n0, .bool false, .int .i64 n2, .int .i64 n3, .int .i64 n4, .int .i64 n5, .int .i64 n6, .int .i64 n7, .int .i64 n8, .int .i64 n9, .bool false, .bool true] 55)).heap.push _)[(W.alloc (.cells #[.int .i64 n0, .bool false, .int .i64 n2, .int .i64 n3, .int .i64 n4, .int .i64 n5, .int .i64 n6, .int .i64 n7, .int .i64 n8, .int .i64 n9, .bool false, .bool true] 55)).heap.size]? = some _
        exact push_at _ _ _ (by kernel_rfl)
      · exact blk_al (w := W.alloc (.cells #[.int .i64 n0, .bool false, .int .i64 n2, .int .i64 n3, .int .i64 n4, .int .i64 n5, .int .i64 n6, .int .i64 n7, .int .i64 n8, .int .i64 n9, .bool false, .bool true] 55)) blk_at (.cells _ 5)
      · exact gb_trans (World.grownBy_alloc _ _ _) (World.grownBy_alloc (W.alloc (.cells #[.int .i64 n0, .bool false, .int .i64 n2, .int .i64 n3, .int .i64 n4, .int .i64 n5, .int .i64 n6, .int .i64 n7, .int .i64 n8, .int .i64 n9, .bool false, .bool true] 55)) (.cells _ 5) none)
    have a0 := blk_cell I.h 0
    have a1 := blk_cell I.h 1
    have a2 := blk_cell I.h 2
    have a3 := blk_cell I.h 3
    have a4 := blk_cell I.h 4
    have a5 := blk_cell I.h 5
    have a6 := blk_cell I.h 6
    have a7 := blk_cell I.h 7
    have a8 := blk_cell I.h 8
    have a9 := blk_cell I.h 9
    have a10 := blk_cell I.h 10
    have a11 := blk_cell I.h 11
    simp only [List.getElem?_toArray, List.getElem?_cons_succ, List.getElem?_cons_zero] at a0 a1 a2 a3 a4 a5 a6 a7 a8 a9 a10 a11
    obtain ⟨y0, q0, f0, l0, r0⟩ := I.u.cell 0 (by decide)
    obtain ⟨y1, q1, f1, l1, r1⟩ := I.u.cell 1 (by decide)
    obtain ⟨y2, q2, f2, l2, r2⟩ := I.u.cell 2 (by decide)
    have HI := Lib.hid I
    clear I
    go_wp2_with fail
    refine (put_calls W W.heap.size (W.heap.size + 1) #[.int .i64 n0, .bool false, .int .i64 n2, .int .i64 n3, .int .i64 n4, .int .i64 n5, .int .i64 n6, .int .i64 n7, .int .i64 n8, .int .i64 n9, .bool false, .bool true] 3 _ _ (by decide) (by (repeat' first | exact HI.out | exact u8r _ | exact u8b _ _ _ | exact ⟨by decide, by decide⟩ | refine TI.set ?_ ?_))).mono ?_
    rintro e w3 ⟨rfl, I3⟩
    clear a0 a1 a2 a3 a4 a5 a6 a7 a8 a9 a10 a11 q0 q1 q2 f0 f1 f2 HI
    have a0 := blk_cell I3.h 0
    have a1 := blk_cell I3.h 1
    have a2 := blk_cell I3.h 2
    have a3 := blk_cell I3.h 3
    have a4 := blk_cell I3.h 4
    have a5 := blk_cell I3.h 5
    have a6 := blk_cell I3.h 6
    have a7 := blk_cell I3.h 7
    have a8 := blk_cell I3.h 8
    have a9 := blk_cell I3.h 9
    have a10 := blk_cell I3.h 10
    have a11 := blk_cell I3.h 11
    simp only [List.getElem?_toArray, List.getElem?_cons_succ, List.getElem?_cons_zero] at a0 a1 a2 a3 a4 a5 a6 a7 a8 a9 a10 a11
    have HI := Lib.hid I3
    clear I3
    go_wp2_with fail
    refine (put_calls W W.heap.size (W.heap.size + 1) #[.int .i64 n0, .bool false, .int .i64 n2, .int .i64 n3, .int .i64 n4, .int .i64 n5, .int .i64 n6, .int .i64 n7, .int .i64 n8, .int .i64 n9, .bool false, .bool true] 5 _ _ (by decide) HI.out).mono ?_
    rintro e w4 ⟨rfl, I4⟩
    clear a0 a1 a2 a3 a4 a5 a6 a7 a8 a9 a10 a11 HI
    have a0 := blk_cell I4.h 0
    have a1 := blk_cell I4.h 1
    have a2 := blk_cell I4.h 2
    have a3 := blk_cell I4.h 3
    have a4 := blk_cell I4.h 4
    have a5 := blk_cell I4.h 5
    have a6 := blk_cell I4.h 6
    have a7 := blk_cell I4.h 7
    have a8 := blk_cell I4.h 8
    have a9 := blk_cell I4.h 9
    have a10 := blk_cell I4.h 10
    have a11 := blk_cell I4.h 11
    simp only [List.getElem?_toArray, List.getElem?_cons_succ, List.getElem?_cons_zero] at a0 a1 a2 a3 a4 a5 a6 a7 a8 a9 a10 a11
    obtain ⟨y7, q7, f7, l7, r7⟩ := I4.u.cell 7 (by decide)
    have HI := Lib.hid I4
    clear I4
    go_wp2_with fail
    refine (put_calls W W.heap.size (W.heap.size + 1) #[.int .i64 n0, .bool false, .int .i64 n2, .int .i64 n3, .int .i64 n4, .int .i64 n5, .int .i64 n6, .int .i64 n7, .int .i64 n8, .int .i64 n9, .bool false, .bool true] 12 _ _ (by decide) (by (repeat' first | exact HI.out | exact u8r _ | exact u8b _ _ _ | exact ⟨by decide, by decide⟩ | refine TI.set ?_ ?_))).mono ?_
    rintro e w5 ⟨rfl, I5⟩
    clear a0 a1 a2 a3 a4 a5 a6 a7 a8 a9 a10 a11 HI q7 f7
    have a0 := blk_cell I5.h 0
    have a1 := blk_cell I5.h 1
    have a2 := blk_cell I5.h 2
    have a3 := blk_cell I5.h 3
    have a4 := blk_cell I5.h 4
    have a5 := blk_cell I5.h 5
    have a6 := blk_cell I5.h 6
    have a7 := blk_cell I5.h 7
    have a8 := blk_cell I5.h 8
    have a9 := blk_cell I5.h 9
    have a10 := blk_cell I5.h 10
    have a11 := blk_cell I5.h 11
    simp only [List.getElem?_toArray, List.getElem?_cons_succ, List.getElem?_cons_zero] at a0 a1 a2 a3 a4 a5 a6 a7 a8 a9 a10 a11
    have HI := Lib.hid I5
    clear I5
    go_wp2_with fail
    refine (put_calls W W.heap.size (W.heap.size + 1) #[.int .i64 n0, .bool false, .int .i64 n2, .int .i64 n3, .int .i64 n4, .int .i64 n5, .int .i64 n6, .int .i64 n7, .int .i64 n8, .int .i64 n9, .bool false, .bool true] 14 _ _ (by decide) HI.out).mono ?_
    rintro e w6 ⟨rfl, I6⟩
    clear a0 a1 a2 a3 a4 a5 a6 a7 a8 a9 a10 a11 HI
    have a0 := blk_cell I6.h 0
    have a1 := blk_cell I6.h 1
    have a2 := blk_cell I6.h 2
    have a3 := blk_cell I6.h 3
    have a4 := blk_cell I6.h 4
    have a5 := blk_cell I6.h 5
    have a6 := blk_cell I6.h 6
    have a7 := blk_cell I6.h 7
    have a8 := blk_cell I6.h 8
    have a9 := blk_cell I6.h 9
    have a10 := blk_cell I6.h 10
    have a11 := blk_cell I6.h 11
    simp only [List.getElem?_toArray, List.getElem?_cons_succ, List.getElem?_cons_zero] at a0 a1 a2 a3 a4 a5 a6 a7 a8 a9 a10 a11
    obtain ⟨y16, q16, f16, l16, r16⟩ := I6.u.cell 16 (by decide)
    obtain ⟨y17, q17, f17, l17, r17⟩ := I6.u.cell 17 (by decide)
    have HI := Lib.hid I6
    clear I6
    go_upto_region 13 with fail
    refine abs_w5 (R := TI W W.heap.size (W.heap.size + 1) #[.int .i64 n0, .bool false, .int .i64 n2, .int .i64 n3, .int .i64 n4, .int .i64 n5, .int .i64 n6, .int .i64 n7, .int .i64 n8, .int .i64 n9, .bool false, .bool true]) (by (repeat' first | exact HI.out | exact u8r _ | exact u8b _ _ _ | exact ⟨by decide, by decide⟩ | refine TI.set ?_ ?_)) (fun w7 I7 => ?_)
    clear a0 a1 a2 a3 a4 a5 a6 a7 a8 a9 a10 a11 HI q16 f16 q17 f17
    have a0 := blk_cell I7.h 0
    have a1 := blk_cell I7.h 1
    have a2 := blk_cell I7.h 2
    have a3 := blk_cell I7.h 3
    have a4 := blk_cell I7.h 4
    have a5 := blk_cell I7.h 5
    have a6 := blk_cell I7.h 6
    have a7 := blk_cell I7.h 7
    have a8 := blk_cell I7.h 8
    have a9 := blk_cell I7.h 9
    have a10 := blk_cell I7.h 10
    have a11 := blk_cell I7.h 11
    simp only [List.getElem?_toArray, List.getElem?_cons_succ, List.getElem?_cons_zero] at a0 a1 a2 a3 a4 a5 a6 a7 a8 a9 a10 a11
    obtain ⟨y17, q17, f17, l17, r17⟩ := I7.u.cell 17 (by decide)
    have HI := Lib.hid I7
    clear I7
    go_upto_region 15 with fail
    refine abs_w5 (R := TI W W.heap.size (W.heap.size + 1) #[.int .i64 n0, .bool false, .int .i64 n2, .int .i64 n3, .int .i64 n4, .int .i64 n5, .int .i64 n6, .int .i64 n7, .int .i64 n8, .int .i64 n9, .bool false, .bool true]) (by (repeat' first | exact HI.out | exact u8r _ | exact u8b _ _ _ | exact ⟨by decide, by decide⟩ | refine TI.set ?_ ?_)) (fun w8 I8 => ?_)
    clear a0 a1 a2 a3 a4 a5 a6 a7 a8 a9 a10 a11 HI q17 f17
    have a0 := blk_cell I8.h 0
    have a1 := blk_cell I8.h 1
    have a2 := blk_cell I8.h 2
    have a3 := blk_cell I8.h 3
    have a4 := blk_cell I8.h 4
    have a5 := blk_cell I8.h 5
    have a6 := blk_cell I8.h 6
    have a7 := blk_cell I8.h 7
    have a8 := blk_cell I8.h 8
    have a9 := blk_cell I8.h 9
    have a10 := blk_cell I8.h 10
    have a11 := blk_cell I8.h 11
    simp only [List.getElem?_toArray, List.getElem?_cons_succ, List.getElem?_cons_zero] at a0 a1 a2 a3 a4 a5 a6 a7 a8 a9 a10 a11
    obtain ⟨y17, q17, f17, l17, r17⟩ := I8.u.cell 17 (by decide)
    have HI := Lib.hid I8
    clear I8
    go_upto_region 17 with fail
    refine abs_w5 (R := TI W W.heap.size (W.heap.size + 1) #[.int .i64 n0, .bool false, .int .i64 n2, .int .i64 n3, .int .i64 n4, .int .i64 n5, .int .i64 n6, .int .i64 n7, .int .i64 n8, .int .i64 n9, .bool false, .bool true]) (by (repeat' first | exact HI.out | exact u8r _ | exact u8b _ _ _ | exact ⟨by decide, by decide⟩ | refine TI.set ?_ ?_)) (fun w9 I9 => ?_)
    clear a0 a1 a2 a3 a4 a5 a6 a7 a8 a9 a10 a11 HI q17 f17
    obtain ⟨z, hz, hcv⟩ := I9.u.conv
    have HZ := Lib.hid hz
    have HI := Lib.hid I9.gb
    clear I9 hz
    go_wp2
    go_ret
    exact ⟨z, rfl, HZ.out, HI.out⟩

set_option maxRecDepth 100000 in
set_option maxHeartbeats 4000000 in
theorem text_ftf (n0 n2 n3 n4 n5 n6 n7 n8 n9 : Int) (W : World) :
    Calls Tryz.prog 43 #[.agg #[.int .i64 n0, .bool false, .int .i64 n2, .int .i64 n3, .int .i64 n4, .int .i64 n5, .int .i64 n6, .int .i64 n7, .int .i64 n8, .int .i64 n9, .bool true, .bool false]] W fun e w' => ∃ z : ByteArray, e = .returned (.string z) ∧ z.size = 18 ∧ W.grownBy w' none := by
    go_enter Tryz.func43, Tryz.ntmps43
    go_upto_region 2 with fail
    refine abs_w5 (R := TI W W.heap.size (W.heap.size + 1) #[.int .i64 n0, .bool false, .int .i64 n2, .int .i64 n3, .int .i64 n4, .int .i64 n5, .int .i64 n6, .int .i64 n7, .int .i64 n8, .int .i64 n9, .bool true, .bool false]) ?_ (fun w2 I => ?_)
    · refine ⟨⟨List.replicate 18 0, rfl, ?_⟩, ?_, ?_, by omega, by omega⟩
      · rw [← size_alloc W (.cells #[.int .i64 n0, .bool false, .int .i64 n2, .int .i64 n3, .int .i64 n4, .int .i64 n5, .int .i64 n6, .int .i64 n7, .int .i64 n8, .int .i64 n9, .bool true, .bool false] 55)]
        show ((W.alloc (.cells #[.int .i64 n0, .bool false, .int .i64 n2, .int .i64 n3, .int .i64 n4, .int .i64 n5, .int .i64 n6, .int .i64 n7, .int .i64 n8, .int .i64 n9, .bool true, .bool false] 55)).heap.push _)[(W.alloc (.cells #[.int .i64 n0, .bool false, .int .i64 n2, .int .i64 n3, .int .i64 n4, .int .i64 n5, .int .i64 n6, .int .i64 n7, .int .i64 n8, .int .i64 n9, .bool true, .bool false] 55)).heap.size]? = some _
        exact push_at _ _ _ (by kernel_rfl)
      · exact blk_al (w := W.alloc (.cells #[.int .i64 n0, .bool false, .int .i64 n2, .int .i64 n3, .int .i64 n4, .int .i64 n5, .int .i64 n6, .int .i64 n7, .int .i64 n8, .int .i64 n9, .bool true, .bool false] 55)) blk_at (.cells _ 5)
      · exact gb_trans (World.grownBy_alloc _ _ _) (World.grownBy_alloc (W.alloc (.cells #[.int .i64 n0, .bool false, .int .i64 n2, .int .i64 n3, .int .i64 n4, .int .i64 n5, .int .i64 n6, .int .i64 n7, .int .i64 n8, .int .i64 n9, .bool true, .bool false] 55)) (.cells _ 5) none)
    have a0 := blk_cell I.h 0
    have a1 := blk_cell I.h 1
    have a2 := blk_cell I.h 2
    have a3 := blk_cell I.h 3
    have a4 := blk_cell I.h 4
    have a5 := blk_cell I.h 5
    have a6 := blk_cell I.h 6
    have a7 := blk_cell I.h 7
    have a8 := blk_cell I.h 8
    have a9 := blk_cell I.h 9
    have a10 := blk_cell I.h 10
    have a11 := blk_cell I.h 11
    simp only [List.getElem?_toArray, List.getElem?_cons_succ, List.getElem?_cons_zero] at a0 a1 a2 a3 a4 a5 a6 a7 a8 a9 a10 a11
    obtain ⟨y0, q0, f0, l0, r0⟩ := I.u.cell 0 (by decide)
    obtain ⟨y1, q1, f1, l1, r1⟩ := I.u.cell 1 (by decide)
    obtain ⟨y2, q2, f2, l2, r2⟩ := I.u.cell 2 (by decide)
    have HI := Lib.hid I
    clear I
    go_wp2_with fail
    refine (put_calls W W.heap.size (W.heap.size + 1) #[.int .i64 n0, .bool false, .int .i64 n2, .int .i64 n3, .int .i64 n4, .int .i64 n5, .int .i64 n6, .int .i64 n7, .int .i64 n8, .int .i64 n9, .bool true, .bool false] 3 _ _ (by decide) (by (repeat' first | exact HI.out | exact u8r _ | exact u8b _ _ _ | exact ⟨by decide, by decide⟩ | refine TI.set ?_ ?_))).mono ?_
    rintro e w3 ⟨rfl, I3⟩
    clear a0 a1 a2 a3 a4 a5 a6 a7 a8 a9 a10 a11 q0 q1 q2 f0 f1 f2 HI
    have a0 := blk_cell I3.h 0
    have a1 := blk_cell I3.h 1
    have a2 := blk_cell I3.h 2
    have a3 := blk_cell I3.h 3
    have a4 := blk_cell I3.h 4
    have a5 := blk_cell I3.h 5
    have a6 := blk_cell I3.h 6
    have a7 := blk_cell I3.h 7
    have a8 := blk_cell I3.h 8
    have a9 := blk_cell I3.h 9
    have a10 := blk_cell I3.h 10
    have a11 := blk_cell I3.h 11
    simp only [List.getElem?_toArray, List.getElem?_cons_succ, List.getElem?_cons_zero] at a0 a1 a2 a3 a4 a5 a6 a7 a8 a9 a10 a11
    have HI := Lib.hid I3
    clear I3
    go_wp2_with fail
    refine (put_calls W W.heap.size (W.heap.size + 1) #[.int .i64 n0, .bool false, .int .i64 n2, .int .i64 n3, .int .i64 n4, .int .i64 n5, .int .i64 n6, .int .i64 n7, .int .i64 n8, .int .i64 n9, .bool true, .bool false] 5 _ _ (by decide) HI.out).mono ?_
    rintro e w4 ⟨rfl, I4⟩
    clear a0 a1 a2 a3 a4 a5 a6 a7 a8 a9 a10 a11 HI
    have a0 := blk_cell I4.h 0
    have a1 := blk_cell I4.h 1
    have a2 := blk_cell I4.h 2
    have a3 := blk_cell I4.h 3
    have a4 := blk_cell I4.h 4
    have a5 := blk_cell I4.h 5
    have a6 := blk_cell I4.h 6
    have a7 := blk_cell I4.h 7
    have a8 := blk_cell I4.h 8
    have a9 := blk_cell I4.h 9
    have a10 := blk_cell I4.h 10
    have a11 := blk_cell I4.h 11
    simp only [List.getElem?_toArray, List.getElem?_cons_succ, List.getElem?_cons_zero] at a0 a1 a2 a3 a4 a5 a6 a7 a8 a9 a10 a11
    obtain ⟨y7, q7, f7, l7, r7⟩ := I4.u.cell 7 (by decide)
    have HI := Lib.hid I4
    clear I4
    go_wp2_with fail
    refine (put_calls W W.heap.size (W.heap.size + 1) #[.int .i64 n0, .bool false, .int .i64 n2, .int .i64 n3, .int .i64 n4, .int .i64 n5, .int .i64 n6, .int .i64 n7, .int .i64 n8, .int .i64 n9, .bool true, .bool false] 12 _ _ (by decide) (by (repeat' first | exact HI.out | exact u8r _ | exact u8b _ _ _ | exact ⟨by decide, by decide⟩ | refine TI.set ?_ ?_))).mono ?_
    rintro e w5 ⟨rfl, I5⟩
    clear a0 a1 a2 a3 a4 a5 a6 a7 a8 a9 a10 a11 HI q7 f7
    have a0 := blk_cell I5.h 0
    have a1 := blk_cell I5.h 1
    have a2 := blk_cell I5.h 2
    have a3 := blk_cell I5.h 3
    have a4 := blk_cell I5.h 4
    have a5 := blk_cell I5.h 5
    have a6 := blk_cell I5.h 6
    have a7 := blk_cell I5.h 7
    have a8 := blk_cell I5.h 8
    have a9 := blk_cell I5.h 9
    have a10 := blk_cell I5.h 10
    have a11 := blk_cell I5.h 11
    simp only [List.getElem?_toArray, List.getElem?_cons_succ, List.getElem?_cons_zero] at a0 a1 a2 a3 a4 a5 a6 a7 a8 a9 a10 a11
    have HI := Lib.hid I5
    clear I5
    go_wp2_with fail
    refine (put_calls W W.heap.size (W.heap.size + 1) #[.int .i64 n0, .bool false, .int .i64 n2, .int .i64 n3, .int .i64 n4, .int .i64 n5, .int .i64 n6, .int .i64 n7, .int .i64 n8, .int .i64 n9, .bool true, .bool false] 14 _ _ (by decide) HI.out).mono ?_
    rintro e w6 ⟨rfl, I6⟩
    clear a0 a1 a2 a3 a4 a5 a6 a7 a8 a9 a10 a11 HI
    have a0 := blk_cell I6.h 0
    have a1 := blk_cell I6.h 1
    have a2 := blk_cell I6.h 2
    have a3 := blk_cell I6.h 3
    have a4 := blk_cell I6.h 4
    have a5 := blk_cell I6.h 5
    have a6 := blk_cell I6.h 6
    have a7 := blk_cell I6.h 7
    have a8 := blk_cell I6.h 8
    have a9 := blk_cell I6.h 9
    have a10 := blk_cell I6.h 10
    have a11 := blk_cell I6.h 11
    simp only [List.getElem?_toArray, List.getElem?_cons_succ, List.getElem?_cons_zero] at a0 a1 a2 a3 a4 a5 a6 a7 a8 a9 a10 a11
    obtain ⟨y16, q16, f16, l16, r16⟩ := I6.u.cell 16 (by decide)
    obtain ⟨y17, q17, f17, l17, r17⟩ := I6.u.cell 17 (by decide)
    have HI := Lib.hid I6
    clear I6
    go_upto_region 13 with fail
    refine abs_w5 (R := TI W W.heap.size (W.heap.size + 1) #[.int .i64 n0, .bool false, .int .i64 n2, .int .i64 n3, .int .i64 n4, .int .i64 n5, .int .i64 n6, .int .i64 n7, .int .i64 n8, .int .i64 n9, .bool true, .bool false]) (by (repeat' first | exact HI.out | exact u8r _ | exact u8b _ _ _ | exact ⟨by decide, by decide⟩ | refine TI.set ?_ ?_)) (fun w7 I7 => ?_)
    clear a0 a1 a2 a3 a4 a5 a6 a7 a8 a9 a10 a11 HI q16 f16 q17 f17
    have a0 := blk_cell I7.h 0
    have a1 := blk_cell I7.h 1
    have a2 := blk_cell I7.h 2
    have a3 := blk_cell I7.h 3
    have a4 := blk_cell I7.h 4
    have a5 := blk_cell I7.h 5
    have a6 := blk_cell I7.h 6
    have a7 := blk_cell I7.h 7
    have a8 := blk_cell I7.h 8
    have a9 := blk_cell I7.h 9
    have a10 := blk_cell I7.h 10
    have a11 := blk_cell I7.h 11
    simp only [List.getElem?_toArray, List.getElem?_cons_succ, List.getElem?_cons_zero] at a0 a1 a2 a3 a4 a5 a6 a7 a8 a9 a10 a11
    obtain ⟨y17, q17, f17, l17, r17⟩ := I7.u.cell 17 (by decide)
    have HI := Lib.hid I7
    clear I7
    go_upto_region 15 with fail
    refine abs_w5 (R := TI W W.heap.size (W.heap.size + 1) #[.int .i64 n0, .bool false, .int .i64 n2, .int .i64 n3, .int .i64 n4, .int .i64 n5, .int .i64 n6, .int .i64 n7, .int .i64 n8, .int .i64 n9, .bool true, .bool false]) (by (repeat' first | exact HI.out | exact u8r _ | exact u8b _ _ _ | exact ⟨by decide, by decide⟩ | refine TI.set ?_ ?_)) (fun w8 I8 => ?_)
    clear a0 a1 a2 a3 a4 a5 a6 a7 a8 a9 a10 a11 HI q17 f17
    have a0 := blk_cell I8.h 0
    have a1 := blk_cell I8.h 1
    have a2 := blk_cell I8.h 2
    have a3 := blk_cell I8.h 3
    have a4 := blk_cell I8.h 4
    have a5 := blk_cell I8.h 5
    have a6 := blk_cell I8.h 6
    have a7 := blk_cell I8.h 7
    have a8 := blk_cell I8.h 8
    have a9 := blk_cell I8.h 9
    have a10 := blk_cell I8.h 10
    have a11 := blk_cell I8.h 11
    simp only [List.getElem?_toArray, List.getElem?_cons_succ, List.getElem?_cons_zero] at a0 a1 a2 a3 a4 a5 a6 a7 a8 a9 a10 a11
    obtain ⟨y17, q17, f17, l17, r17⟩ := I8.u.cell 17 (by decide)
    have HI := Lib.hid I8
    clear I8
    go_upto_region 17 with fail
    refine abs_w5 (R := TI W W.heap.size (W.heap.size + 1) #[.int .i64 n0, .bool false, .int .i64 n2, .int .i64 n3, .int .i64 n4, .int .i64 n5, .int .i64 n6, .int .i64 n7, .int .i64 n8, .int .i64 n9, .bool true, .bool false]) (by (repeat' first | exact HI.out | exact u8r _ | exact u8b _ _ _ | exact ⟨by decide, by decide⟩ | refine TI.set ?_ ?_)) (fun w9 I9 => ?_)
    clear a0 a1 a2 a3 a4 a5 a6 a7 a8 a9 a10 a11 HI q17 f17
    obtain ⟨z, hz, hcv⟩ := I9.u.conv
    have HZ := Lib.hid hz
    have HI := Lib.hid I9.gb
    clear I9 hz
    go_wp2
    go_ret
    exact ⟨z, rfl, HZ.out, HI.out⟩

set_option maxRecDepth 100000 in
set_option maxHeartbeats 4000000 in
theorem text_ftt (n0 n2 n3 n4 n5 n6 n7 n8 n9 : Int) (W : World) :
    Calls Tryz.prog 43 #[.agg #[.int .i64 n0, .bool false, .int .i64 n2, .int .i64 n3, .int .i64 n4, .int .i64 n5, .int .i64 n6, .int .i64 n7, .int .i64 n8, .int .i64 n9, .bool true, .bool true]] W fun e w' => ∃ z : ByteArray, e = .returned (.string z) ∧ z.size = 18 ∧ W.grownBy w' none := by
    go_enter Tryz.func43, Tryz.ntmps43
    go_upto_region 2 with fail
    refine abs_w5 (R := TI W W.heap.size (W.heap.size + 1) #[.int .i64 n0, .bool false, .int .i64 n2, .int .i64 n3, .int .i64 n4, .int .i64 n5, .int .i64 n6, .int .i64 n7, .int .i64 n8, .int .i64 n9, .bool true, .bool true]) ?_ (fun w2 I => ?_)
    · refine ⟨⟨List.replicate 18 0, rfl, ?_⟩, ?_, ?_, by omega, by omega⟩
      · rw [← size_alloc W (.cells #[.int .i64 n0, .bool false, .int .i64 n2, .int .i64 n3, .int .i64 n4, .int .i64 n5, .int .i64 n6, .int .i64 n7, .int .i64 n8, .int .i64 n9, .bool true, .bool true] 55)]
        show ((W.alloc (.cells #[.int .i64 n0, .bool false, .int .i64 n2, .int .i64 n3, .int .i64 n4, .int .i64 n5, .int .i64 n6, .int .i64 n7, .int .i64 n8, .int .i64 n9, .bool true, .bool true] 55)).heap.push _)[(W.alloc (.cells #[.int .i64 n0, .bool false, .int .i64 n2, .int .i64 n3, .int .i64 n4, .int .i64 n5, .int .i64 n6, .int .i64 n7, .int .i64 n8, .int .i64 n9, .bool true, .bool true] 55)).heap.size]? = some _
        exact push_at _ _ _ (by kernel_rfl)
      · exact blk_al (w := W.alloc (.cells #[.int .i64 n0, .bool false, .int .i64 n2, .int .i64 n3, .int .i64 n4, .int .i64 n5, .int .i64 n6, .int .i64 n7, .int .i64 n8, .int .i64 n9, .bool true, .bool true] 55)) blk_at (.cells _ 5)
      · exact gb_trans (World.grownBy_alloc _ _ _) (World.grownBy_alloc (W.alloc (.cells #[.int .i64 n0, .bool false, .int .i64 n2, .int .i64 n3, .int .i64 n4, .int .i64 n5, .int .i64 n6, .int .i64 n7, .int .i64 n8, .int .i64 n9, .bool true, .bool true] 55)) (.cells _ 5) none)
    have a0 := blk_cell I.h 0
    have a1 := blk_cell I.h 1
    have a2 := blk_cell I.h 2
    have a3 := blk_cell I.h 3
    have a4 := blk_cell I.h 4
    have a5 := blk_cell I.h 5
    have a6 := blk_cell I.h 6
    have a7 := blk_cell I.h 7
    have a8 := blk_cell I.h 8
    have a9 := blk_cell I.h 9
    have a10 := blk_cell I.h 10
    have a11 := blk_cell I.h 11
    simp only [List.getElem?_toArray, List.getElem?_cons_succ, List.getElem?_cons_zero] at a0 a1 a2 a3 a4 a5 a6 a7 a8 a9 a10 a11
    obtain ⟨y0, q0, f0, l0, r0⟩ := I.u.cell 0 (by decide)
    obtain ⟨y1, q1, f1, l1, r1⟩ := I.u.cell 1 (by decide)
    obtain ⟨y2, q2, f2, l2, r2⟩ := I.u.cell 2 (by decide)
    have HI := Lib.hid I
    clear I
    go_wp2_with fail
    refine (put_calls W W.heap.size (W.heap.size + 1) #[.int .i64 n0, .bool false, .int .i64 n2, .int .i64 n3, .int .i64 n4, .int .i64 n5, .int .i64 n6, .int .i64 n7, .int .i64 n8, .int .i64 n9, .bool true, .bool true] 3 _ _ (by decide) (by (repeat' first | exact HI.out | exact u8r _ | exact u8b _ _ _ | exact ⟨by decide, by decide⟩ | refine TI.set ?_ ?_))).mono ?_
    rintro e w3 ⟨rfl, I3⟩
    clear a0 a1 a2 a3 a4 a5 a6 a7 a8 a9 a10 a11 q0 q1 q2 f0 f1 f2 HI
    have a0 := blk_cell I3.h 0
    have a1 := blk_cell I3.h 1
    have a2 := blk_cell I3.h 2
    have a3 := blk_cell I3.h 3
    have a4 := blk_cell I3.h 4
    have a5 := blk_cell I3.h 5
    have a6 := blk_cell I3.h 6
    have a7 := blk_cell I3.h 7
    have a8 := blk_cell I3.h 8
    have a9 := blk_cell I3.h 9
    have a10 := blk_cell I3.h 10
    have a11 := blk_cell I3.h 11
    simp only [List.getElem?_toArray, List.getElem?_cons_succ, List.getElem?_cons_zero] at a0 a1 a2 a3 a4 a5 a6 a7 a8 a9 a10 a11
    have HI := Lib.hid I3
    clear I3
    go_wp2_with fail
    refine (put_calls W W.heap.size (W.heap.size + 1) #[.int .i64 n0, .bool false, .int .i64 n2, .int .i64 n3, .int .i64 n4, .int .i64 n5, .int .i64 n6, .int .i64 n7, .int .i64 n8, .int .i64 n9, .bool true, .bool true] 5 _ _ (by decide) HI.out).mono ?_
    rintro e w4 ⟨rfl, I4⟩
    clear a0 a1 a2 a3 a4 a5 a6 a7 a8 a9 a10 a11 HI
    have a0 := blk_cell I4.h 0
    have a1 := blk_cell I4.h 1
    have a2 := blk_cell I4.h 2
    have a3 := blk_cell I4.h 3
    have a4 := blk_cell I4.h 4
    have a5 := blk_cell I4.h 5
    have a6 := blk_cell I4.h 6
    have a7 := blk_cell I4.h 7
    have a8 := blk_cell I4.h 8
    have a9 := blk_cell I4.h 9
    have a10 := blk_cell I4.h 10
    have a11 := blk_cell I4.h 11
    simp only [List.getElem?_toArray, List.getElem?_cons_succ, List.getElem?_cons_zero] at a0 a1 a2 a3 a4 a5 a6 a7 a8 a9 a10 a11
    obtain ⟨y7, q7, f7, l7, r7⟩ := I4.u.cell 7 (by decide)
    have HI := Lib.hid I4
    clear I4
    go_wp2_with fail
    refine (put_calls W W.heap.size (W.heap.size + 1) #[.int .i64 n0, .bool false, .int .i64 n2, .int .i64 n3, .int .i64 n4, .int .i64 n5, .int .i64 n6, .int .i64 n7, .int .i64 n8, .int .i64 n9, .bool true, .bool true] 12 _ _ (by decide) (by (repeat' first | exact HI.out | exact u8r _ | exact u8b _ _ _ | exact ⟨by decide, by decide⟩ | refine TI.set ?_ ?_))).mono ?_
    rintro e w5 ⟨rfl, I5⟩
    clear a0 a1 a2 a3 a4 a5 a6 a7 a8 a9 a10 a11 HI q7 f7
    have a0 := blk_cell I5.h 0
    have a1 := blk_cell I5.h 1
    have a2 := blk_cell I5.h 2
    have a3 := blk_cell I5.h 3
    have a4 := blk_cell I5.h 4
    have a5 := blk_cell I5.h 5
    have a6 := blk_cell I5.h 6
    have a7 := blk_cell I5.h 7
    have a8 := blk_cell I5.h 8
    have a9 := blk_cell I5.h 9
    have a10 := blk_cell I5.h 10
    have a11 := blk_cell I5.h 11
    simp only [List.getElem?_toArray, List.getElem?_cons_succ, List.getElem?_cons_zero] at a0 a1 a2 a3 a4 a5 a6 a7 a8 a9 a10 a11
    have HI := Lib.hid I5
    clear I5
    go_wp2_with fail
    refine (put_calls W W.heap.size (W.heap.size + 1) #[.int .i64 n0, .bool false, .int .i64 n2, .int .i64 n3, .int .i64 n4, .int .i64 n5, .int .i64 n6, .int .i64 n7, .int .i64 n8, .int .i64 n9, .bool true, .bool true] 14 _ _ (by decide) HI.out).mono ?_
    rintro e w6 ⟨rfl, I6⟩
    clear a0 a1 a2 a3 a4 a5 a6 a7 a8 a9 a10 a11 HI
    have a0 := blk_cell I6.h 0
    have a1 := blk_cell I6.h 1
    have a2 := blk_cell I6.h 2
    have a3 := blk_cell I6.h 3
    have a4 := blk_cell I6.h 4
    have a5 := blk_cell I6.h 5
    have a6 := blk_cell I6.h 6
    have a7 := blk_cell I6.h 7
    have a8 := blk_cell I6.h 8
    have a9 := blk_cell I6.h 9
    have a10 := blk_cell I6.h 10
    have a11 := blk_cell I6.h 11
    simp only [List.getElem?_toArray, List.getElem?_cons_succ, List.getElem?_cons_zero] at a0 a1 a2 a3 a4 a5 a6 a7 a8 a9 a10 a11
    obtain ⟨y16, q16, f16, l16, r16⟩ := I6.u.cell 16 (by decide)
    obtain ⟨y17, q17, f17, l17, r17⟩ := I6.u.cell 17 (by decide)
    have HI := Lib.hid I6
    clear I6
    go_upto_region 13 with fail
    refine abs_w5 (R := TI W W.heap.size (W.heap.size + 1) #[.int .i64 n0, .bool false, .int .i64 n2, .int .i64 n3, .int .i64 n4, .int .i64 n5, .int .i64 n6, .int .i64 n7, .int .i64 n8, .int .i64 n9, .bool true, .bool true]) (by (repeat' first | exact HI.out | exact u8r _ | exact u8b _ _ _ | exact ⟨by decide, by decide⟩ | refine TI.set ?_ ?_)) (fun w7 I7 => ?_)
    clear a0 a1 a2 a3 a4 a5 a6 a7 a8 a9 a10 a11 HI q16 f16 q17 f17
    have a0 := blk_cell I7.h 0
    have a1 := blk_cell I7.h 1
    have a2 := blk_cell I7.h 2
    have a3 := blk_cell I7.h 3
    have a4 := blk_cell I7.h 4
    have a5 := blk_cell I7.h 5
    have a6 := blk_cell I7.h 6
    have a7 := blk_cell I7.h 7
    have a8 := blk_cell I7.h 8
    have a9 := blk_cell I7.h 9
    have a10 := blk_cell I7.h 10
    have a11 := blk_cell I7.h 11
    simp only [List.getElem?_toArray, List.getElem?_cons_succ, List.getElem?_cons_zero] at a0 a1 a2 a3 a4 a5 a6 a7 a8 a9 a10 a11
    obtain ⟨y17, q17, f17, l17, r17⟩ := I7.u.cell 17 (by decide)
    have HI := Lib.hid I7
    clear I7
    go_upto_region 15 with fail
    refine abs_w5 (R := TI W W.heap.size (W.heap.size + 1) #[.int .i64 n0, .bool false, .int .i64 n2, .int .i64 n3, .int .i64 n4, .int .i64 n5, .int .i64 n6, .int .i64 n7, .int .i64 n8, .int .i64 n9, .bool true, .bool true]) (by (repeat' first | exact HI.out | exact u8r _ | exact u8b _ _ _ | exact ⟨by decide, by decide⟩ | refine TI.set ?_ ?_)) (fun w8 I8 => ?_)
    clear a0 a1 a2 a3 a4 a5 a6 a7 a8 a9 a10 a11 HI q17 f17
    have a0 := blk_cell I8.h 0
    have a1 := blk_cell I8.h 1
    have a2 := blk_cell I8.h 2
    have a3 := blk_cell I8.h 3
    have a4 := blk_cell I8.h 4
    have a5 := blk_cell I8.h 5
    have a6 := blk_cell I8.h 6
    have a7 := blk_cell I8.h 7
    have a8 := blk_cell I8.h 8
    have a9 := blk_cell I8.h 9
    have a10 := blk_cell I8.h 10
    have a11 := blk_cell I8.h 11
    simp only [List.getElem?_toArray, List.getElem?_cons_succ, List.getElem?_cons_zero] at a0 a1 a2 a3 a4 a5 a6 a7 a8 a9 a10 a11
    obtain ⟨y17, q17, f17, l17, r17⟩ := I8.u.cell 17 (by decide)
    have HI := Lib.hid I8
    clear I8
    go_upto_region 17 with fail
    refine abs_w5 (R := TI W W.heap.size (W.heap.size + 1) #[.int .i64 n0, .bool false, .int .i64 n2, .int .i64 n3, .int .i64 n4, .int .i64 n5, .int .i64 n6, .int .i64 n7, .int .i64 n8, .int .i64 n9, .bool true, .bool true]) (by (repeat' first | exact HI.out | exact u8r _ | exact u8b _ _ _ | exact ⟨by decide, by decide⟩ | refine TI.set ?_ ?_)) (fun w9 I9 => ?_)
    clear a0 a1 a2 a3 a4 a5 a6 a7 a8 a9 a10 a11 HI q17 f17
    obtain ⟨z, hz, hcv⟩ := I9.u.conv
    have HZ := Lib.hid hz
    have HI := Lib.hid I9.gb
    clear I9 hz
    go_wp2
    go_ret
    exact ⟨z, rfl, HZ.out, HI.out⟩

set_option maxRecDepth 100000 in
set_option maxHeartbeats 4000000 in
theorem text_tff (n0 n2 n3 n4 n5 n6 n7 n8 n9 : Int) (W : World) :
    Calls Tryz.prog 43 #[.agg #[.int .i64 n0, .bool true, .int .i64 n2, .int .i64 n3, .int .i64 n4, .int .i64 n5, .int .i64 n6, .int .i64 n7, .int .i64 n8, .int .i64 n9, .bool false, .bool false]] W fun e w' => ∃ z : ByteArray, e = .returned (.string z) ∧ z.size = 18 ∧ W.grownBy w' none := by
    go_enter Tryz.func43, Tryz.ntmps43
    go_upto_region 2 with fail
    refine abs_w5 (R := TI W W.heap.size (W.heap.size + 1) #[.int .i64 n0, .bool true, .int .i64 n2, .int .i64 n3, .int .i64 n4, .int .i64 n5, .int .i64 n6, .int .i64 n7, .int .i64 n8, .int .i64 n9, .bool false, .bool false]) ?_ (fun w2 I => ?_)
    · refine ⟨⟨List.replicate 18 0, rfl, ?_⟩, ?_, ?_, by omega, by omega⟩
      · rw [← size_alloc W (.cells #[.int .i64 n0, .bool true, .int .i64 n2, .int .i64 n3, .int .i64 n4, .int .i64 n5, .int .i64 n6, .int .i64 n7, .int .i64 n8, .int .i64 n9, .bool false, .bool false] 55)]
        show ((W.alloc (.cells #[.int .i64 n0, .bool true, .int .i64 n2, .int .i64 n3, .int .i64 n4, .int .i64 n5, .int .i64 n6, .int .i64 n7, .int .i64 n8, .int .i64 n9, .bool false, .bool false] 55)).heap.push _)[(W.alloc (.cells #[.int .i64 n0, .bool true, .int .i64 n2, .int .i64 n3, .int .i64 n4, .int .i64 n5, .int .i64 n6, .int .i64 n7, .int .i64 n8, .int .i64 n9, .bool false, .bool false] 55)).heap.size]? = some _
        exact push_at _ _ _ (by kernel_rfl)
      · exact blk_al (w := W.alloc (.cells #[.int .i64 n0, .bool true, .int .i64 n2, .int .i64 n3, .int .i64 n4, .int .i64 n5, .int .i64 n6, .int .i64 n7, .int .i64 n8, .int .i64 n9, .bool false, .bool false] 55)) blk_at (.cells _ 5)
      · exact gb_trans (World.grownBy_alloc _ _ _) (World.grownBy_alloc (W.alloc (.cells #[.int .i64 n0, .bool true, .int .i64 n2, .int .i64 n3, .int .i64 n4, .int .i64 n5, .int .i64 n6, .int .i64 n7, .int .i64 n8, .int .i64 n9, .bool false, .bool false] 55)) (.cells _ 5) none)
    have a0 := blk_cell I.h 0
    have a1 := blk_cell I.h 1
    have a2 := blk_cell I.h 2
    have a3 := blk_cell I.h 3
    have a4 := blk_cell I.h 4
    have a5 := blk_cell I.h 5
    have a6 := blk_cell I.h 6
    have a7 := blk_cell I.h 7
    have a8 := blk_cell I.h 8
    have a9 := blk_cell I.h 9
    have a10 := blk_cell I.h 10
    have a11 := blk_cell I.h 11
    simp only [List.getElem?_toArray, List.getElem?_cons_succ, List.getElem?_cons_zero] at a0 a1 a2 a3 a4 a5 a6 a7 a8 a9 a10 a11
    obtain ⟨y0, q0, f0, l0, r0⟩ := I.u.cell 0 (by decide)
    obtain ⟨y1, q1, f1, l1, r1⟩ := I.u.cell 1 (by decide)
    obtain ⟨y2, q2, f2, l2, r2⟩ := I.u.cell 2 (by decide)
    have HI := Lib.hid I
    clear I
    go_wp2_with fail
    refine (put_calls W W.heap.size (W.heap.size + 1) #[.int .i64 n0, .bool true, .int .i64 n2, .int .i64 n3, .int .i64 n4, .int .i64 n5, .int .i64 n6, .int .i64 n7, .int .i64 n8, .int .i64 n9, .bool false, .bool false] 3 _ _ (by decide) (by (repeat' first | exact HI.out | exact u8r _ | exact u8b _ _ _ | exact ⟨by decide, by decide⟩ | refine TI.set ?_ ?_))).mono ?_
    rintro e w3 ⟨rfl, I3⟩
    clear a0 a1 a2 a3 a4 a5 a6 a7 a8 a9 a10 a11 q0 q1 q2 f0 f1 f2 HI
    have a0 := blk_cell I3.h 0
    have a1 := blk_cell I3.h 1
    have a2 := blk_cell I3.h 2
    have a3 := blk_cell I3.h 3
    have a4 := blk_cell I3.h 4
    have a5 := blk_cell I3.h 5
    have a6 := blk_cell I3.h 6
    have a7 := blk_cell I3.h 7
    have a8 := blk_cell I3.h 8
    have a9 := blk_cell I3.h 9
    have a10 := blk_cell I3.h 10
    have a11 := blk_cell I3.h 11
    simp only [List.getElem?_toArray, List.getElem?_cons_succ, List.getElem?_cons_zero] at a0 a1 a2 a3 a4 a5 a6 a7 a8 a9 a10 a11
    have HI := Lib.hid I3
    clear I3
    go_wp2_with fail
    refine (put_calls W W.heap.size (W.heap.size + 1) #[.int .i64 n0, .bool true, .int .i64 n2, .int .i64 n3, .int .i64 n4, .int .i64 n5, .int .i64 n6, .int .i64 n7, .int .i64 n8, .int .i64 n9, .bool false, .bool false] 5 _ _ (by decide) HI.out).mono ?_
    rintro e w4 ⟨rfl, I4⟩
    clear a0 a1 a2 a3 a4 a5 a6 a7 a8 a9 a10 a11 HI
    have a0 := blk_cell I4.h 0
    have a1 := blk_cell I4.h 1
    have a2 := blk_cell I4.h 2
    have a3 := blk_cell I4.h 3
    have a4 := blk_cell I4.h 4
    have a5 := blk_cell I4.h 5
    have a6 := blk_cell I4.h 6
    have a7 := blk_cell I4.h 7
    have a8 := blk_cell I4.h 8
    have a9 := blk_cell I4.h 9
    have a10 := blk_cell I4.h 10
    have a11 := blk_cell I4.h 11
    simp only [List.getElem?_toArray, List.getElem?_cons_succ, List.getElem?_cons_zero] at a0 a1 a2 a3 a4 a5 a6 a7 a8 a9 a10 a11
    obtain ⟨y7, q7, f7, l7, r7⟩ := I4.u.cell 7 (by decide)
    have HI := Lib.hid I4
    clear I4
    go_wp2_with fail
    refine (put_calls W W.heap.size (W.heap.size + 1) #[.int .i64 n0, .bool true, .int .i64 n2, .int .i64 n3, .int .i64 n4, .int .i64 n5, .int .i64 n6, .int .i64 n7, .int .i64 n8, .int .i64 n9, .bool false, .bool false] 12 _ _ (by decide) (by (repeat' first | exact HI.out | exact u8r _ | exact u8b _ _ _ | exact ⟨by decide, by decide⟩ | refine TI.set ?_ ?_))).mono ?_
    rintro e w5 ⟨rfl, I5⟩
    clear a0 a1 a2 a3 a4 a5 a6 a7 a8 a9 a10 a11 HI q7 f7
    have a0 := blk_cell I5.h 0
    have a1 := blk_cell I5.h 1
    have a2 := blk_cell I5.h 2
    have a3 := blk_cell I5.h 3
    have a4 := blk_cell I5.h 4
    have a5 := blk_cell I5.h 5
    have a6 := blk_cell I5.h 6
    have a7 := blk_cell I5.h 7
    have a8 := blk_cell I5.h 8
    have a9 := blk_cell I5.h 9
    have a10 := blk_cell I5.h 10
    have a11 := blk_cell I5.h 11
    simp only [List.getElem?_toArray, List.getElem?_cons_succ, List.getElem?_cons_zero] at a0 a1 a2 a3 a4 a5 a6 a7 a8 a9 a10 a11
    have HI := Lib.hid I5
    clear I5
    go_wp2_with fail
    refine (put_calls W W.heap.size (W.heap.size + 1) #[.int .i64 n0, .bool true, .int .i64 n2, .int .i64 n3, .int .i64 n4, .int .i64 n5, .int .i64 n6, .int .i64 n7, .int .i64 n8, .int .i64 n9, .bool false, .bool false] 14 _ _ (by decide) HI.out).mono ?_
    rintro e w6 ⟨rfl, I6⟩
    clear a0 a1 a2 a3 a4 a5 a6 a7 a8 a9 a10 a11 HI
    have a0 := blk_cell I6.h 0
    have a1 := blk_cell I6.h 1
    have a2 := blk_cell I6.h 2
    have a3 := blk_cell I6.h 3
    have a4 := blk_cell I6.h 4
    have a5 := blk_cell I6.h 5
    have a6 := blk_cell I6.h 6
    have a7 := blk_cell I6.h 7
    have a8 := blk_cell I6.h 8
    have a9 := blk_cell I6.h 9
    have a10 := blk_cell I6.h 10
    have a11 := blk_cell I6.h 11
    simp only [List.getElem?_toArray, List.getElem?_cons_succ, List.getElem?_cons_zero] at a0 a1 a2 a3 a4 a5 a6 a7 a8 a9 a10 a11
    obtain ⟨y16, q16, f16, l16, r16⟩ := I6.u.cell 16 (by decide)
    obtain ⟨y17, q17, f17, l17, r17⟩ := I6.u.cell 17 (by decide)
    have HI := Lib.hid I6
    clear I6
    go_upto_region 13 with fail
    refine abs_w5 (R := TI W W.heap.size (W.heap.size + 1) #[.int .i64 n0, .bool true, .int .i64 n2, .int .i64 n3, .int .i64 n4, .int .i64 n5, .int .i64 n6, .int .i64 n7, .int .i64 n8, .int .i64 n9, .bool false, .bool false]) (by (repeat' first | exact HI.out | exact u8r _ | exact u8b _ _ _ | exact ⟨by decide, by decide⟩ | refine TI.set ?_ ?_)) (fun w7 I7 => ?_)
    clear a0 a1 a2 a3 a4 a5 a6 a7 a8 a9 a10 a11 HI q16 f16 q17 f17
    have a0 := blk_cell I7.h 0
    have a1 := blk_cell I7.h 1
    have a2 := blk_cell I7.h 2
    have a3 := blk_cell I7.h 3
    have a4 := blk_cell I7.h 4
    have a5 := blk_cell I7.h 5
    have a6 := blk_cell I7.h 6
    have a7 := blk_cell I7.h 7
    have a8 := blk_cell I7.h 8
    have a9 := blk_cell I7.h 9
    have a10 := blk_cell I7.h 10
    have a11 := blk_cell I7.h 11
    simp only [List.getElem?_toArray, List.getElem?_cons_succ, List.getElem?_cons_zero] at a0 a1 a2 a3 a4 a5 a6 a7 a8 a9 a10 a11
    obtain ⟨y17, q17, f17, l17, r17⟩ := I7.u.cell 17 (by decide)
    have HI := Lib.hid I7
    clear I7
    go_upto_region 15 with fail
    refine abs_w5 (R := TI W W.heap.size (W.heap.size + 1) #[.int .i64 n0, .bool true, .int .i64 n2, .int .i64 n3, .int .i64 n4, .int .i64 n5, .int .i64 n6, .int .i64 n7, .int .i64 n8, .int .i64 n9, .bool false, .bool false]) (by (repeat' first | exact HI.out | exact u8r _ | exact u8b _ _ _ | exact ⟨by decide, by decide⟩ | refine TI.set ?_ ?_)) (fun w8 I8 => ?_)
    clear a0 a1 a2 a3 a4 a5 a6 a7 a8 a9 a10 a11 HI q17 f17
    have a0 := blk_cell I8.h 0
    have a1 := blk_cell I8.h 1
    have a2 := blk_cell I8.h 2
    have a3 := blk_cell I8.h 3
    have a4 := blk_cell I8.h 4
    have a5 := blk_cell I8.h 5
    have a6 := blk_cell I8.h 6
    have a7 := blk_cell I8.h 7
    have a8 := blk_cell I8.h 8
    have a9 := blk_cell I8.h 9
    have a10 := blk_cell I8.h 10
    have a11 := blk_cell I8.h 11
    simp only [List.getElem?_toArray, List.getElem?_cons_succ, List.getElem?_cons_zero] at a0 a1 a2 a3 a4 a5 a6 a7 a8 a9 a10 a11
    obtain ⟨y17, q17, f17, l17, r17⟩ := I8.u.cell 17 (by decide)
    have HI := Lib.hid I8
    clear I8
    go_upto_region 17 with fail
    refine abs_w5 (R := TI W W.heap.size (W.heap.size + 1) #[.int .i64 n0, .bool true, .int .i64 n2, .int .i64 n3, .int .i64 n4, .int .i64 n5, .int .i64 n6, .int .i64 n7, .int .i64 n8, .int .i64 n9, .bool false, .bool false]) (by (repeat' first | exact HI.out | exact u8r _ | exact u8b _ _ _ | exact ⟨by decide, by decide⟩ | refine TI.set ?_ ?_)) (fun w9 I9 => ?_)
    clear a0 a1 a2 a3 a4 a5 a6 a7 a8 a9 a10 a11 HI q17 f17
    obtain ⟨z, hz, hcv⟩ := I9.u.conv
    have HZ := Lib.hid hz
    have HI := Lib.hid I9.gb
    clear I9 hz
    go_wp2
    go_ret
    exact ⟨z, rfl, HZ.out, HI.out⟩

set_option maxRecDepth 100000 in
set_option maxHeartbeats 4000000 in
theorem text_tft (n0 n2 n3 n4 n5 n6 n7 n8 n9 : Int) (W : World) :
    Calls Tryz.prog 43 #[.agg #[.int .i64 n0, .bool true, .int .i64 n2, .int .i64 n3, .int .i64 n4, .int .i64 n5, .int .i64 n6, .int .i64 n7, .int .i64 n8, .int .i64 n9, .bool false, .bool true]] W fun e w' => ∃ z : ByteArray, e = .returned (.string z) ∧ z.size = 18 ∧ W.grownBy w' none := by
    go_enter Tryz.func43, Tryz.ntmps43
    go_upto_region 2 with fail
    refine abs_w5 (R := TI W W.heap.size (W.heap.size + 1) #[.int .i64 n0, .bool true, .int .i64 n2, .int .i64 n3, .int .i64 n4, .int .i64 n5, .int .i64 n6, .int .i64 n7, .int .i64 n8, .int .i64 n9, .bool false, .bool true]) ?_ (fun w2 I => ?_)
    · refine ⟨⟨List.replicate 18 0, rfl, ?_⟩, ?_, ?_, by omega, by omega⟩
      · rw [← size_alloc W (.cells #[.int .i64 n0, .bool true, .int .i64 n2, .int .i64 n3, .int .i64 n4, .int .i64 n5, .int .i64 n6, .int .i64 n7, .int .i64 n8, .int .i64 n9, .bool false, .bool true] 55)]
        show ((W.alloc (.cells #[.int .i64 n0, .bool true, .int .i64 n2, .int .i64 n3, .int .i64 n4, .int .i64 n5, .int .i64 n6, .int .i64 n7, .int .i64 n8, .int .i64 n9, .bool false, .bool true] 55)).heap.push _)[(W.alloc (.cells #[.int .i64 n0, .bool true, .int .i64 n2, .int .i64 n3, .int .i64 n4, .int .i64 n5, .int .i64 n6, .int .i64 n7, .int .i64 n8, .int .i64 n9, .bool false, .bool true] 55)).heap.size]? = some _
        exact push_at _ _ _ (by kernel_rfl)
      · exact blk_al (w := W.alloc (.cells #[.int .i64 n0, .bool true, .int .i64 n2, .int .i64 n3, .int .i64 n4, .int .i64 n5, .int .i64 n6, .int .i64 n7, .int .i64 n8, .int .i64 n9, .bool false, .bool true] 55)) blk_at (.cells _ 5)
      · exact gb_trans (World.grownBy_alloc _ _ _) (World.grownBy_alloc (W.alloc (.cells #[.int .i64 n0, .bool true, .int .i64 n2, .int .i64 n3, .int .i64 n4, .int .i64 n5, .int .i64 n6, .int .i64 n7, .int .i64 n8, .int .i64 n9, .bool false, .bool true] 55)) (.cells _ 5) none)
    have a0 := blk_cell I.h 0
    have a1 := blk_cell I.h 1
    have a2 := blk_cell I.h 2
    have a3 := blk_cell I.h 3
    have a4 := blk_cell I.h 4
    have a5 := blk_cell I.h 5
    have a6 := blk_cell I.h 6
    have a7 := blk_cell I.h 7
    have a8 := blk_cell I.h 8
    have a9 := blk_cell I.h 9
    have a10 := blk_cell I.h 10
    have a11 := blk_cell I.h 11
    simp only [List.getElem?_toArray, List.getElem?_cons_succ, List.getElem?_cons_zero] at a0 a1 a2 a3 a4 a5 a6 a7 a8 a9 a10 a11
    obtain ⟨y0, q0, f0, l0, r0⟩ := I.u.cell 0 (by decide)
    obtain ⟨y1, q1, f1, l1, r1⟩ := I.u.cell 1 (by decide)
    obtain ⟨y2, q2, f2, l2, r2⟩ := I.u.cell 2 (by decide)
    have HI := Lib.hid I
    clear I
    go_wp2_with fail
    refine (put_calls W W.heap.size (W.heap.size + 1) #[.int .i64 n0, .bool true, .int .i64 n2, .int .i64 n3, .int .i64 n4, .int .i64 n5, .int .i64 n6, .int .i64 n7, .int .i64 n8, .int .i64 n9, .bool false, .bool true] 3 _ _ (by decide) (by (repeat' first | exact HI.out | exact u8r _ | exact u8b _ _ _ | exact ⟨by decide, by decide⟩ | refine TI.set ?_ ?_))).mono ?_
    rintro e w3 ⟨rfl, I3⟩
    clear a0 a1 a2 a3 a4 a5 a6 a7 a8 a9 a10 a11 q0 q1 q2 f0 f1 f2 HI
    have a0 := blk_cell I3.h 0
    have a1 := blk_cell I3.h 1
    have a2 := blk_cell I3.h 2
    have a3 := blk_cell I3.h 3
    have a4 := blk_cell I3.h 4
    have a5 := blk_cell I3.h 5
    have a6 := blk_cell I3.h 6
    have a7 := blk_cell I3.h 7
    have a8 := blk_cell I3.h 8
    have a9 := blk_cell I3.h 9
    have a10 := blk_cell I3.h 10
    have a11 := blk_cell I3.h 11
    simp only [List.getElem?_toArray, List.getElem?_cons_succ, List.getElem?_cons_zero] at a0 a1 a2 a3 a4 a5 a6 a7 a8 a9 a10 a11
    have HI := Lib.hid I3
    clear I3
    go_wp2_with fail
    refine (put_calls W W.heap.size (W.heap.size + 1) #[.int .i64 n0, .bool true, .int .i64 n2, .int .i64 n3, .int .i64 n4, .int .i64 n5, .int .i64 n6, .int .i64 n7, .int .i64 n8, .int .i64 n9, .bool false, .bool true] 5 _ _ (by decide) HI.out).mono ?_
    rintro e w4 ⟨rfl, I4⟩
    clear a0 a1 a2 a3 a4 a5 a6 a7 a8 a9 a10 a11 HI
    have a0 := blk_cell I4.h 0
    have a1 := blk_cell I4.h 1
    have a2 := blk_cell I4.h 2
    have a3 := blk_cell I4.h 3
    have a4 := blk_cell I4.h 4
    have a5 := blk_cell I4.h 5
    have a6 := blk_cell I4.h 6
    have a7 := blk_cell I4.h 7
    have a8 := blk_cell I4.h 8
    have a9 := blk_cell I4.h 9
    have a10 := blk_cell I4.h 10
    have a11 := blk_cell I4.h 11
    simp only [List.getElem?_toArray, List.getElem?_cons_succ, List.getElem?_cons_zero] at a0 a1 a2 a3 a4 a5 a6 a7 a8 a9 a10 a11
    obtain ⟨y7, q7, f7, l7, r7⟩ := I4.u.cell 7 (by decide)
    have HI := Lib.hid I4
    clear I4
    go_wp2_with fail
    refine (put_calls W W.heap.size (W.heap.size + 1) #[.int .i64 n0, .bool true, .int .i64 n2, .int .i64 n3, .int .i64 n4, .int .i64 n5, .int .i64 n6, .int .i64 n7, .int .i64 n8, .int .i64 n9, .bool false, .bool true] 12 _ _ (by decide) (by (repeat' first | exact HI.out | exact u8r _ | exact u8b _ _ _ | exact ⟨by decide, by decide⟩ | refine TI.set ?_ ?_))).mono ?_
    rintro e w5 ⟨rfl, I5⟩
    clear a0 a1 a2 a3 a4 a5 a6 a7 a8 a9 a10 a11 HI q7 f7
    have a0 := blk_cell I5.h 0
    have a1 := blk_cell I5.h 1
    have a2 := blk_cell I5.h 2
    have a3 := blk_cell I5.h 3
    have a4 := blk_cell I5.h 4
    have a5 := blk_cell I5.h 5
    have a6 := blk_cell I5.h 6
    have a7 := blk_cell I5.h 7
    have a8 := blk_cell I5.h 8
    have a9 := blk_cell I5.h 9
    have a10 := blk_cell I5.h 10
    have a11 := blk_cell I5.h 11
    simp only [List.getElem?_toArray, List.getElem?_cons_succ, List.getElem?_cons_zero] at a0 a1 a2 a3 a4 a5 a6 a7 a8 a9 a10 a11
    have HI := Lib.hid I5
    clear I5
    go_wp2_with fail
    refine (put_calls W W.heap.size (W.heap.size + 1) #[.int .i64 n0, .bool true, .int .i64 n2, .int .i64 n3, .int .i64 n4, .int .i64 n5, .int .i64 n6, .int .i64 n7, .int .i64 n8, .int .i64 n9, .bool false, .bool true] 14 _ _ (by decide) HI.out).mono ?_
    rintro e w6 ⟨rfl, I6⟩
    clear a0 a1 a2 a3 a4 a5 a6 a7 a8 a9 a10 a11 HI
    have a0 := blk_cell I6.h 0
    have a1 := blk_cell I6.h 1
    have a2 := blk_cell I6.h 2
    have a3 := blk_cell I6.h 3
    have a4 := blk_cell I6.h 4
    have a5 := blk_cell I6.h 5
    have a6 := blk_cell I6.h 6
    have a7 := blk_cell I6.h 7
    have a8 := blk_cell I6.h 8
    have a9 := blk_cell I6.h 9
    have a10 := blk_cell I6.h 10
    have a11 := blk_cell I6.h 11
    simp only [List.getElem?_toArray, List.getElem?_cons_succ, List.getElem?_cons_zero] at a0 a1 a2 a3 a4 a5 a6 a7 a8 a9 a10 a11
    obtain ⟨y16, q16, f16, l16, r16⟩ := I6.u.cell 16 (by decide)
    obtain ⟨y17, q17, f17, l17, r17⟩ := I6.u.cell 17 (by decide)
    have HI := Lib.hid I6
    clear I6
    go_upto_region 13 with fail
    refine abs_w5 (R := TI W W.heap.size (W.heap.size + 1) #[.int .i64 n0, .bool true, .int .i64 n2, .int .i64 n3, .int .i64 n4, .int .i64 n5, .int .i64 n6, .int .i64 n7, .int .i64 n8, .int .i64 n9, .bool false, .bool true]) (by (repeat' first | exact HI.out | exact u8r _ | exact u8b _ _ _ | exact ⟨by decide, by decide⟩ | refine TI.set ?_ ?_)) (fun w7 I7 => ?_)
    clear a0 a1 a2 a3 a4 a5 a6 a7 a8 a9 a10 a11 HI q16 f16 q17 f17
    have a0 := blk_cell I7.h 0
    have a1 := blk_cell I7.h 1
    have a2 := blk_cell I7.h 2
    have a3 := blk_cell I7.h 3
    have a4 := blk_cell I7.h 4
    have a5 := blk_cell I7.h 5
    have a6 := blk_cell I7.h 6
    have a7 := blk_cell I7.h 7
    have a8 := blk_cell I7.h 8
    have a9 := blk_cell I7.h 9
    have a10 := blk_cell I7.h 10
    have a11 := blk_cell I7.h 11
    simp only [List.getElem?_toArray, List.getElem?_cons_succ, List.getElem?_cons_zero] at a0 a1 a2 a3 a4 a5 a6 a7 a8 a9 a10 a11
    obtain ⟨y17, q17, f17, l17, r17⟩ := I7.u.cell 17 (by decide)
    have HI := Lib.hid I7
    clear I7
    go_upto_region 15 with fail
    refine abs_w5 (R := TI W W.heap.size (W.heap.size + 1) #[.int .i64 n0, .bool true, .int .i64 n2, .int .i64 n3, .int .i64 n4, .int .i64 n5, .int .i64 n6, .int .i64 n7, .int .i64 n8, .int .i64 n9, .bool false, .bool true]) (by (repeat' first | exact HI.out | exact u8r _ | exact u8b _ _ _ | exact ⟨by decide, by decide⟩ | refine TI.set ?_ ?_)) (fun w8 I8 => ?_)
    clear a0 a1 a2 a3 a4 a5 a6 a7 a8 a9 a10 a11 HI q17 f17
    have a0 := blk_cell I8.h 0
    have a1 := blk_cell I8.h 1
    have a2 := blk_cell I8.h 2
    have a3 := blk_cell I8.h 3
    have a4 := blk_cell I8.h 4
    have a5 := blk_cell I8.h 5
    have a6 := blk_cell I8.h 6
    have a7 := blk_cell I8.h 7
    have a8 := blk_cell I8.h 8
    have a9 := blk_cell I8.h 9
    have a10 := blk_cell I8.h 10
    have a11 := blk_cell I8.h 11
    simp only [List.getElem?_toArray, List.getElem?_cons_succ, List.getElem?_cons_zero] at a0 a1 a2 a3 a4 a5 a6 a7 a8 a9 a10 a11
    obtain ⟨y17, q17, f17, l17, r17⟩ := I8.u.cell 17 (by decide)
    have HI := Lib.hid I8
    clear I8
    go_upto_region 17 with fail
    refine abs_w5 (R := TI W W.heap.size (W.heap.size + 1) #[.int .i64 n0, .bool true, .int .i64 n2, .int .i64 n3, .int .i64 n4, .int .i64 n5, .int .i64 n6, .int .i64 n7, .int .i64 n8, .int .i64 n9, .bool false, .bool true]) (by (repeat' first | exact HI.out | exact u8r _ | exact u8b _ _ _ | exact ⟨by decide, by decide⟩ | refine TI.set ?_ ?_)) (fun w9 I9 => ?_)
    clear a0 a1 a2 a3 a4 a5 a6 a7 a8 a9 a10 a11 HI q17 f17
    obtain ⟨z, hz, hcv⟩ := I9.u.conv
    have HZ := Lib.hid hz
    have HI := Lib.hid I9.gb
    clear I9 hz
    go_wp2
    go_ret
    exact ⟨z, rfl, HZ.out, HI.out⟩

set_option maxRecDepth 100000 in
set_option maxHeartbeats 4000000 in
theorem text_ttf (n0 n2 n3 n4 n5 n6 n7 n8 n9 : Int) (W : World) :
    Calls Tryz.prog 43 #[.agg #[.int .i64 n0, .bool true, .int .i64 n2, .int .i64 n3, .int .i64 n4, .int .i64 n5, .int .i64 n6, .int .i64 n7, .int .i64 n8, .int .i64 n9, .bool true, .bool false]] W fun e w' => ∃ z : ByteArray, e = .returned (.string z) ∧ z.size = 18 ∧ W.grownBy w' none := by
    go_enter Tryz.func43, Tryz.ntmps43
    go_upto_region 2 with fail
    refine abs_w5 (R := TI W W.heap.size (W.heap.size + 1) #[.int .i64 n0, .bool true, .int .i64 n2, .int .i64 n3, .int .i64 n4, .int .i64 n5, .int .i64 n6, .int .i64 n7, .int .i64 n8, .int .i64 n9, .bool true, .bool false]) ?_ (fun w2 I => ?_)
    · refine ⟨⟨List.replicate 18 0, rfl, ?_⟩, ?_, ?_, by omega, by omega⟩
      · rw [← size_alloc W (.cells #[.int .i64 n0, .bool true, .int .i64 n2, .int .i64 n3, .int .i64 n4, .int .i64 n5, .int .i64 n6, .int .i64 n7, .int .i64 n8, .int .i64 n9, .bool true, .bool false] 55)]
        show ((W.alloc (.cells #[.int .i64 n0, .bool true, .int .i64 n2, .int .i64 n3, .int .i64 n4, .int .i64 n5, .int .i64 n6, .int .i64 n7, .int .i64 n8, .int .i64 n9, .bool true, .bool false] 55)).heap.push _)[(W.alloc (.cells #[.int .i64 n0, .bool true, .int .i64 n2, .int .i64 n3, .int .i64 n4, .int .i64 n5, .int .i64 n6, .int .i64 n7, .int .i64 n8, .int .i64 n9, .bool true, .bool false] 55)).heap.size]? = some _
        exact push_at _ _ _ (by kernel_rfl)
      · exact blk_al (w := W.alloc (.cells #[.int .i64 n0, .bool true, .int .i64 n2, .int .i64 n3, .int .i64 n4, .int .i64 n5, .int .i64 n6, .int .i64 n7, .int .i64 n8, .int .i64 n9, .bool true, .bool false] 55)) blk_at (.cells _ 5)
      · exact gb_trans (World.grownBy_alloc _ _ _) (World.grownBy_alloc (W.alloc (.cells #[.int .i64 n0, .bool true, .int .i64 n2, .int .i64 n3, .int .i64 n4, .int .i64 n5, .int .i64 n6, .int .i64 n7, .int .i64 n8, .int .i64 n9, .bool true, .bool false] 55)) (.cells _ 5) none)
    have a0 := blk_cell I.h 0
    have a1 := blk_cell I.h 1
    have a2 := blk_cell I.h 2
    have a3 := blk_cell I.h 3
    have a4 := blk_cell I.h 4
    have a5 := blk_cell I.h 5
    have a6 := blk_cell I.h 6
    have a7 := blk_cell I.h 7
    have a8 := blk_cell I.h 8
    have a9 := blk_cell I.h 9
    have a10 := blk_cell I.h 10
    have a11 := blk_cell I.h 11
    simp only [List.getElem?_toArray, List.getElem?_cons_succ, List.getElem?_cons_zero] at a0 a1 a2 a3 a4 a5 a6 a7 a8 a9 a10 a11
    obtain ⟨y0, q0, f0, l0, r0⟩ := I.u.cell 0 (by decide)
    obtain ⟨y1, q1, f1, l1, r1⟩ := I.u.cell 1 (by decide)
    obtain ⟨y2, q2, f2, l2, r2⟩ := I.u.cell 2 (by decide)
    have HI := Lib.hid I
    clear I
    go_wp2_with fail
    refine (put_calls W W.heap.size (W.heap.size + 1) #[.int .i64 n0, .bool true, .int .i64 n2, .int .i64 n3, .int .i64 n4, .int .i64 n5, .int .i64 n6, .int .i64 n7, .int .i64 n8, .int .i64 n9, .bool true, .bool false] 3 _ _ (by decide) (by (repeat' first | exact HI.out | exact u8r _ | exact u8b _ _ _ | exact ⟨by decide, by decide⟩ | refine TI.set ?_ ?_))).mono ?_
    rintro e w3 ⟨rfl, I3⟩
    clear a0 a1 a2 a3 a4 a5 a6 a7 a8 a9 a10 a11 q0 q1 q2 f0 f1 f2 HI
    have a0 := blk_cell I3.h 0
    have a1 := blk_cell I3.h 1
    have a2 := blk_cell I3.h 2
    have a3 := blk_cell I3.h 3
    have a4 := blk_cell I3.h 4
    have a5 := blk_cell I3.h 5
    have a6 := blk_cell I3.h 6
    have a7 := blk_cell I3.h 7
    have a8 := blk_cell I3.h 8
    have a9 := blk_cell I3.h 9
    have a10 := blk_cell I3.h 10
    have a11 := blk_cell I3.h 11
    simp only [List.getElem?_toArray, List.getElem?_cons_succ, List.getElem?_cons_zero] at a0 a1 a2 a3 a4 a5 a6 a7 a8 a9 a10 a11
    have HI := Lib.hid I3
    clear I3
    go_wp2_with fail
    refine (put_calls W W.heap.size (W.heap.size + 1) #[.int .i64 n0, .bool true, .int .i64 n2, .int .i64 n3, .int .i64 n4, .int .i64 n5, .int .i64 n6, .int .i64 n7, .int .i64 n8, .int .i64 n9, .bool true, .bool false] 5 _ _ (by decide) HI.out).mono ?_
    rintro e w4 ⟨rfl, I4⟩
    clear a0 a1 a2 a3 a4 a5 a6 a7 a8 a9 a10 a11 HI
    have a0 := blk_cell I4.h 0
    have a1 := blk_cell I4.h 1
    have a2 := blk_cell I4.h 2
    have a3 := blk_cell I4.h 3
    have a4 := blk_cell I4.h 4
    have a5 := blk_cell I4.h 5
    have a6 := blk_cell I4.h 6
    have a7 := blk_cell I4.h 7
    have a8 := blk_cell I4.h 8
    have a9 := blk_cell I4.h 9
    have a10 := blk_cell I4.h 10
    have a11 := blk_cell I4.h 11
    simp only [List.getElem?_toArray, List.getElem?_cons_succ, List.getElem?_cons_zero] at a0 a1 a2 a3 a4 a5 a6 a7 a8 a9 a10 a11
    obtain ⟨y7, q7, f7, l7, r7⟩ := I4.u.cell 7 (by decide)
    have HI := Lib.hid I4
    clear I4
    go_wp2_with fail
    refine (put_calls W W.heap.size (W.heap.size + 1) #[.int .i64 n0, .bool true, .int .i64 n2, .int .i64 n3, .int .i64 n4, .int .i64 n5, .int .i64 n6, .int .i64 n7, .int .i64 n8, .int .i64 n9, .bool true, .bool false] 12 _ _ (by decide) (by (repeat' first | exact HI.out | exact u8r _ | exact u8b _ _ _ | exact ⟨by decide, by decide⟩ | refine TI.set ?_ ?_))).mono ?_
    rintro e w5 ⟨rfl, I5⟩
    clear a0 a1 a2 a3 a4 a5 a6 a7 a8 a9 a10 a11 HI q7 f7
    have a0 := blk_cell I5.h 0
    have a1 := blk_cell I5.h 1
    have a2 := blk_cell I5.h 2
    have a3 := blk_cell I5.h 3
    have a4 := blk_cell I5.h 4
    have a5 := blk_cell I5.h 5
    have a6 := blk_cell I5.h 6
    have a7 := blk_cell I5.h 7
    have a8 := blk_cell I5.h 8
    have a9 := blk_cell I5.h 9
    have a10 := blk_cell I5.h 10
    have a11 := blk_cell I5.h 11
    simp only [List.getElem?_toArray, List.getElem?_cons_succ, List.getElem?_cons_zero] at a0 a1 a2 a3 a4 a5 a6 a7 a8 a9 a10 a11
    have HI := Lib.hid I5
    clear I5
    go_wp2_with fail
    refine (put_calls W W.heap.size (W.heap.size + 1) #[.int .i64 n0, .bool true, .int .i64 n2, .int .i64 n3, .int .i64 n4, .int .i64 n5, .int .i64 n6, .int .i64 n7, .int .i64 n8, .int .i64 n9, .bool true, .bool false] 14 _ _ (by decide) HI.out).mono ?_
    rintro e w6 ⟨rfl, I6⟩
    clear a0 a1 a2 a3 a4 a5 a6 a7 a8 a9 a10 a11 HI
    have a0 := blk_cell I6.h 0
    have a1 := blk_cell I6.h 1
    have a2 := blk_cell I6.h 2
    have a3 := blk_cell I6.h 3
    have a4 := blk_cell I6.h 4
    have a5 := blk_cell I6.h 5
    have a6 := blk_cell I6.h 6
    have a7 := blk_cell I6.h 7
    have a8 := blk_cell I6.h 8
    have a9 := blk_cell I6.h 9
    have a10 := blk_cell I6.h 10
    have a11 := blk_cell I6.h 11
    simp only [List.getElem?_toArray, List.getElem?_cons_succ, List.getElem?_cons_zero] at a0 a1 a2 a3 a4 a5 a6 a7 a8 a9 a10 a11
    obtain ⟨y16, q16, f16, l16, r16⟩ := I6.u.cell 16 (by decide)
    obtain ⟨y17, q17, f17, l17, r17⟩ := I6.u.cell 17 (by decide)
    have HI := Lib.hid I6
    clear I6
    go_upto_region 13 with fail
    refine abs_w5 (R := TI W W.heap.size (W.heap.size + 1) #[.int .i64 n0, .bool true, .int .i64 n2, .int .i64 n3, .int .i64 n4, .int .i64 n5, .int .i64 n6, .int .i64 n7, .int .i64 n8, .int .i64 n9, .bool true, .bool false]) (by (repeat' first | exact HI.out | exact u8r _ | exact u8b _ _ _ | exact ⟨by decide, by decide⟩ | refine TI.set ?_ ?_)) (fun w7 I7 => ?_)
    clear a0 a1 a2 a3 a4 a5 a6 a7 a8 a9 a10 a11 HI q16 f16 q17 f17
    have a0 := blk_cell I7.h 0
    have a1 := blk_cell I7.h 1
    have a2 := blk_cell I7.h 2
    have a3 := blk_cell I7.h 3
    have a4 := blk_cell I7.h 4
    have a5 := blk_cell I7.h 5
    have a6 := blk_cell I7.h 6
    have a7 := blk_cell I7.h 7
    have a8 := blk_cell I7.h 8
    have a9 := blk_cell I7.h 9
    have a10 := blk_cell I7.h 10
    have a11 := blk_cell I7.h 11
    simp only [List.getElem?_toArray, List.getElem?_cons_succ, List.getElem?_cons_zero] at a0 a1 a2 a3 a4 a5 a6 a7 a8 a9 a10 a11
    obtain ⟨y17, q17, f17, l17, r17⟩ := I7.u.cell 17 (by decide)
    have HI := Lib.hid I7
    clear I7
    go_upto_region 15 with fail
    refine abs_w5 (R := TI W W.heap.size (W.heap.size + 1) #[.int .i64 n0, .bool true, .int .i64 n2, .int .i64 n3, .int .i64 n4, .int .i64 n5, .int .i64 n6, .int .i64 n7, .int .i64 n8, .int .i64 n9, .bool true, .bool false]) (by (repeat' first | exact HI.out | exact u8r _ | exact u8b _ _ _ | exact ⟨by decide, by decide⟩ | refine TI.set ?_ ?_)) (fun w8 I8 => ?_)
    clear a0 a1 a2 a3 a4 a5 a6 a7 a8 a9 a10 a11 HI q17 f17
    have a0 := blk_cell I8.h 0
    have a1 := blk_cell I8.h 1
    have a2 := blk_cell I8.h 2
    have a3 := blk_cell I8.h 3
    have a4 := blk_cell I8.h 4
    have a5 := blk_cell I8.h 5
    have a6 := blk_cell I8.h 6
    have a7 := blk_cell I8.h 7
    have a8 := blk_cell I8.h 8
    have a9 := blk_cell I8.h 9
    have a10 := blk_cell I8.h 10
    have a11 := blk_cell I8.h 11
    simp only [List.getElem?_toArray, List.getElem?_cons_succ, List.getElem?_cons_zero] at a0 a1 a2 a3 a4 a5 a6 a7 a8 a9 a10 a11
    obtain ⟨y17, q17, f17, l17, r17⟩ := I8.u.cell 17 (by decide)
    have HI := Lib.hid I8
    clear I8
    go_upto_region 17 with fail
    refine abs_w5 (R := TI W W.heap.size (W.heap.size + 1) #[.int .i64 n0, .bool true, .int .i64 n2, .int .i64 n3, .int .i64 n4, .int .i64 n5, .int .i64 n6, .int .i64 n7, .int .i64 n8, .int .i64 n9, .bool true, .bool false]) (by (repeat' first | exact HI.out | exact u8r _ | exact u8b _ _ _ | exact ⟨by decide, by decide⟩ | refine TI.set ?_ ?_)) (fun w9 I9 => ?_)
    clear a0 a1 a2 a3 a4 a5 a6 a7 a8 a9 a10 a11 HI q17 f17
    obtain ⟨z, hz, hcv⟩ := I9.u.conv
    have HZ := Lib.hid hz
    have HI := Lib.hid I9.gb
    clear I9 hz
    go_wp2
    go_ret
    exact ⟨z, rfl, HZ.out, HI.out⟩

set_option maxRecDepth 100000 in
set_option maxHeartbeats 4000000 in
theorem text_ttt (n0 n2 n3 n4 n5 n6 n7 n8 n9 : Int) (W : World) :
    Calls Tryz.prog 43 #[.agg #[.int .i64 n0, .bool true, .int .i64 n2, .int .i64 n3, .int .i64 n4, .int .i64 n5, .int .i64 n6, .int .i64 n7, .int .i64 n8, .int .i64 n9, .bool true, .bool true]] W fun e w' => ∃ z : ByteArray, e = .returned (.string z) ∧ z.size = 18 ∧ W.grownBy w' none := by
    go_enter Tryz.func43, Tryz.ntmps43
    go_upto_region 2 with fail
    refine abs_w5 (R := TI W W.heap.size (W.heap.size + 1) #[.int .i64 n0, .bool true, .int .i64 n2, .int .i64 n3, .int .i64 n4, .int .i64 n5, .int .i64 n6, .int .i64 n7, .int .i64 n8, .int .i64 n9, .bool true, .bool true]) ?_ (fun w2 I => ?_)
    · refine ⟨⟨List.replicate 18 0, rfl, ?_⟩, ?_, ?_, by omega, by omega⟩
      · rw [← size_alloc W (.cells #[.int .i64 n0, .bool true, .int .i64 n2, .int .i64 n3, .int .i64 n4, .int .i64 n5, .int .i64 n6, .int .i64 n7, .int .i64 n8, .int .i64 n9, .bool true, .bool true] 55)]
        show ((W.alloc (.cells #[.int .i64 n0, .bool true, .int .i64 n2, .int .i64 n3, .int .i64 n4, .int .i64 n5, .int .i64 n6, .int .i64 n7, .int .i64 n8, .int .i64 n9, .bool true, .bool true] 55)).heap.push _)[(W.alloc (.cells #[.int .i64 n0, .bool true, .int .i64 n2, .int .i64 n3, .int .i64 n4, .int .i64 n5, .int .i64 n6, .int .i64 n7, .int .i64 n8, .int .i64 n9, .bool true, .bool true] 55)).heap.size]? = some _
        exact push_at _ _ _ (by kernel_rfl)
      · exact blk_al (w := W.alloc (.cells #[.int .i64 n0, .bool true, .int .i64 n2, .int .i64 n3, .int .i64 n4, .int .i64 n5, .int .i64 n6, .int .i64 n7, .int .i64 n8, .int .i64 n9, .bool true, .bool true] 55)) blk_at (.cells _ 5)
      · exact gb_trans (World.grownBy_alloc _ _ _) (World.grownBy_alloc (W.alloc (.cells #[.int .i64 n0, .bool true, .int .i64 n2, .int .i64 n3, .int .i64 n4, .int .i64 n5, .int .i64 n6, .int .i64 n7, .int .i64 n8, .int .i64 n9, .bool true, .bool true] 55)) (.cells _ 5) none)
    have a0 := blk_cell I.h 0
    have a1 := blk_cell I.h 1
    have a2 := blk_cell I.h 2
    have a3 := blk_cell I.h 3
    have a4 := blk_cell I.h 4
    have a5 := blk_cell I.h 5
    have a6 := blk_cell I.h 6
    have a7 := blk_cell I.h 7
    have a8 := blk_cell I.h 8
    have a9 := blk_cell I.h 9
    have a10 := blk_cell I.h 10
    have a11 := blk_cell I.h 11
    simp only [List.getElem?_toArray, List.getElem?_cons_succ, List.getElem?_cons_zero] at a0 a1 a2 a3 a4 a5 a6 a7 a8 a9 a10 a11
    obtain ⟨y0, q0, f0, l0, r0⟩ := I.u.cell 0 (by decide)
    obtain ⟨y1, q1, f1, l1, r1⟩ := I.u.cell 1 (by decide)
    obtain ⟨y2, q2, f2, l2, r2⟩ := I.u.cell 2 (by decide)
    have HI := Lib.hid I
    clear I
    go_wp2_with fail
    refine (put_calls W W.heap.size (W.heap.size + 1) #[.int .i64 n0, .bool true, .int .i64 n2, .int .i64 n3, .int .i64 n4, .int .i64 n5, .int .i64 n6, .int .i64 n7, .int .i64 n8, .int .i64 n9, .bool true, .bool true] 3 _ _ (by decide) (by (repeat' first | exact HI.out | exact u8r _ | exact u8b _ _ _ | exact ⟨by decide, by decide⟩ | refine TI.set ?_ ?_))).mono ?_
    rintro e w3 ⟨rfl, I3⟩
    clear a0 a1 a2 a3 a4 a5 a6 a7 a8 a9 a10 a11 q0 q1 q2 f0 f1 f2 HI
    have a0 := blk_cell I3.h 0
    have a1 := blk_cell I3.h 1
    have a2 := blk_cell I3.h 2
    have a3 := blk_cell I3.h 3
    have a4 := blk_cell I3.h 4
    have a5 := blk_cell I3.h 5
    have a6 := blk_cell I3.h 6
    have a7 := blk_cell I3.h 7
    have a8 := blk_cell I3.h 8
    have a9 := blk_cell I3.h 9
    have a10 := blk_cell I3.h 10
    have a11 := blk_cell I3.h 11
    simp only [List.getElem?_toArray, List.getElem?_cons_succ, List.getElem?_cons_zero] at a0 a1 a2 a3 a4 a5 a6 a7 a8 a9 a10 a11
    have HI := Lib.hid I3
    clear I3
    go_wp2_with fail
    refine (put_calls W W.heap.size (W.heap.size + 1) #[.int .i64 n0, .bool true, .int .i64 n2, .int .i64 n3, .int .i64 n4, .int .i64 n5, .int .i64 n6, .int .i64 n7, .int .i64 n8, .int .i64 n9, .bool true, .bool true] 5 _ _ (by decide) HI.out).mono ?_
    rintro e w4 ⟨rfl, I4⟩
    clear a0 a1 a2 a3 a4 a5 a6 a7 a8 a9 a10 a11 HI
    have a0 := blk_cell I4.h 0
    have a1 := blk_cell I4.h 1
    have a2 := blk_cell I4.h 2
    have a3 := blk_cell I4.h 3
    have a4 := blk_cell I4.h 4
    have a5 := blk_cell I4.h 5
    have a6 := blk_cell I4.h 6
    have a7 := blk_cell I4.h 7
    have a8 := blk_cell I4.h 8
    have a9 := blk_cell I4.h 9
    have a10 := blk_cell I4.h 10
    have a11 := blk_cell I4.h 11
    simp only [List.getElem?_toArray, List.getElem?_cons_succ, List.getElem?_cons_zero] at a0 a1 a2 a3 a4 a5 a6 a7 a8 a9 a10 a11
    obtain ⟨y7, q7, f7, l7, r7⟩ := I4.u.cell 7 (by decide)
    have HI := Lib.hid I4
    clear I4
    go_wp2_with fail
    refine (put_calls W W.heap.size (W.heap.size + 1) #[.int .i64 n0, .bool true, .int .i64 n2, .int .i64 n3, .int .i64 n4, .int .i64 n5, .int .i64 n6, .int .i64 n7, .int .i64 n8, .int .i64 n9, .bool true, .bool true] 12 _ _ (by decide) (by (repeat' first | exact HI.out | exact u8r _ | exact u8b _ _ _ | exact ⟨by decide, by decide⟩ | refine TI.set ?_ ?_))).mono ?_
    rintro e w5 ⟨rfl, I5⟩
    clear a0 a1 a2 a3 a4 a5 a6 a7 a8 a9 a10 a11 HI q7 f7
    have a0 := blk_cell I5.h 0
    have a1 := blk_cell I5.h 1
    have a2 := blk_cell I5.h 2
    have a3 := blk_cell I5.h 3
    have a4 := blk_cell I5.h 4
    have a5 := blk_cell I5.h 5
    have a6 := blk_cell I5.h 6
    have a7 := blk_cell I5.h 7
    have a8 := blk_cell I5.h 8
    have a9 := blk_cell I5.h 9
    have a10 := blk_cell I5.h 10
    have a11 := blk_cell I5.h 11
    simp only [List.getElem?_toArray, List.getElem?_cons_succ, List.getElem?_cons_zero] at a0 a1 a2 a3 a4 a5 a6 a7 a8 a9 a10 a11
    have HI := Lib.hid I5
    clear I5
    go_wp2_with fail
    refine (put_calls W W.heap.size (W.heap.size + 1) #[.int .i64 n0, .bool true, .int .i64 n2, .int .i64 n3, .int .i64 n4, .int .i64 n5, .int .i64 n6, .int .i64 n7, .int .i64 n8, .int .i64 n9, .bool true, .bool true] 14 _ _ (by decide) HI.out).mono ?_
    rintro e w6 ⟨rfl, I6⟩
    clear a0 a1 a2 a3 a4 a5 a6 a7 a8 a9 a10 a11 HI
    have a0 := blk_cell I6.h 0
    have a1 := blk_cell I6.h 1
    have a2 := blk_cell I6.h 2
    have a3 := blk_cell I6.h 3
    have a4 := blk_cell I6.h 4
    have a5 := blk_cell I6.h 5
    have a6 := blk_cell I6.h 6
    have a7 := blk_cell I6.h 7
    have a8 := blk_cell I6.h 8
    have a9 := blk_cell I6.h 9
    have a10 := blk_cell I6.h 10
    have a11 := blk_cell I6.h 11
    simp only [List.getElem?_toArray, List.getElem?_cons_succ, List.getElem?_cons_zero] at a0 a1 a2 a3 a4 a5 a6 a7 a8 a9 a10 a11
    obtain ⟨y16, q16, f16, l16, r16⟩ := I6.u.cell 16 (by decide)
    obtain ⟨y17, q17, f17, l17, r17⟩ := I6.u.cell 17 (by decide)
    have HI := Lib.hid I6
    clear I6
    go_upto_region 13 with fail
    refine abs_w5 (R := TI W W.heap.size (W.heap.size + 1) #[.int .i64 n0, .bool true, .int .i64 n2, .int .i64 n3, .int .i64 n4, .int .i64 n5, .int .i64 n6, .int .i64 n7, .int .i64 n8, .int .i64 n9, .bool true, .bool true]) (by (repeat' first | exact HI.out | exact u8r _ | exact u8b _ _ _ | exact ⟨by decide, by decide⟩ | refine TI.set ?_ ?_)) (fun w7 I7 => ?_)
    clear a0 a1 a2 a3 a4 a5 a6 a7 a8 a9 a10 a11 HI q16 f16 q17 f17
    have a0 := blk_cell I7.h 0
    have a1 := blk_cell I7.h 1
    have a2 := blk_cell I7.h 2
    have a3 := blk_cell I7.h 3
    have a4 := blk_cell I7.h 4
    have a5 := blk_cell I7.h 5
    have a6 := blk_cell I7.h 6
    have a7 := blk_cell I7.h 7
    have a8 := blk_cell I7.h 8
    have a9 := blk_cell I7.h 9
    have a10 := blk_cell I7.h 10
    have a11 := blk_cell I7.h 11
    simp only [List.getElem?_toArray, List.getElem?_cons_succ, List.getElem?_cons_zero] at a0 a1 a2 a3 a4 a5 a6 a7 a8 a9 a10 a11
    obtain ⟨y17, q17, f17, l17, r17⟩ := I7.u.cell 17 (by decide)
    have HI := Lib.hid I7
    clear I7
    go_upto_region 15 with fail
    refine abs_w5 (R := TI W W.heap.size (W.heap.size + 1) #[.int .i64 n0, .bool true, .int .i64 n2, .int .i64 n3, .int .i64 n4, .int .i64 n5, .int .i64 n6, .int .i64 n7, .int .i64 n8, .int .i64 n9, .bool true, .bool true]) (by (repeat' first | exact HI.out | exact u8r _ | exact u8b _ _ _ | exact ⟨by decide, by decide⟩ | refine TI.set ?_ ?_)) (fun w8 I8 => ?_)
    clear a0 a1 a2 a3 a4 a5 a6 a7 a8 a9 a10 a11 HI q17 f17
    have a0 := blk_cell I8.h 0
    have a1 := blk_cell I8.h 1
    have a2 := blk_cell I8.h 2
    have a3 := blk_cell I8.h 3
    have a4 := blk_cell I8.h 4
    have a5 := blk_cell I8.h 5
    have a6 := blk_cell I8.h 6
    have a7 := blk_cell I8.h 7
    have a8 := blk_cell I8.h 8
    have a9 := blk_cell I8.h 9
    have a10 := blk_cell I8.h 10
    have a11 := blk_cell I8.h 11
    simp only [List.getElem?_toArray, List.getElem?_cons_succ, List.getElem?_cons_zero] at a0 a1 a2 a3 a4 a5 a6 a7 a8 a9 a10 a11
    obtain ⟨y17, q17, f17, l17, r17⟩ := I8.u.cell 17 (by decide)
    have HI := Lib.hid I8
    clear I8
    go_upto_region 17 with fail
    refine abs_w5 (R := TI W W.heap.size (W.heap.size + 1) #[.int .i64 n0, .bool true, .int .i64 n2, .int .i64 n3, .int .i64 n4, .int .i64 n5, .int .i64 n6, .int .i64 n7, .int .i64 n8, .int .i64 n9, .bool true, .bool true]) (by (repeat' first | exact HI.out | exact u8r _ | exact u8b _ _ _ | exact ⟨by decide, by decide⟩ | refine TI.set ?_ ?_)) (fun w9 I9 => ?_)
    clear a0 a1 a2 a3 a4 a5 a6 a7 a8 a9 a10 a11 HI q17 f17
    obtain ⟨z, hz, hcv⟩ := I9.u.conv
    have HZ := Lib.hid hz
    have HI := Lib.hid I9.gb
    clear I9 hz
    go_wp2
    go_ret
    exact ⟨z, rfl, HZ.out, HI.out⟩

/-- A head's bytes are eighteen. -/
theorem text_calls (n0 n2 n3 n4 n5 n6 n7 n8 n9 : Int) (mp lf tp : Bool) (W : World) :
    Calls Tryz.prog 43 #[.agg #[.int .i64 n0, .bool mp, .int .i64 n2, .int .i64 n3, .int .i64 n4, .int .i64 n5, .int .i64 n6, .int .i64 n7, .int .i64 n8, .int .i64 n9, .bool lf, .bool tp]] W fun e w' => ∃ z : ByteArray, e = .returned (.string z) ∧ z.size = 18 ∧ W.grownBy w' none := by
  cases mp <;> cases lf <;> cases tp
  · exact text_fff n0 n2 n3 n4 n5 n6 n7 n8 n9 W
  · exact text_fft n0 n2 n3 n4 n5 n6 n7 n8 n9 W
  · exact text_ftf n0 n2 n3 n4 n5 n6 n7 n8 n9 W
  · exact text_ftt n0 n2 n3 n4 n5 n6 n7 n8 n9 W
  · exact text_tff n0 n2 n3 n4 n5 n6 n7 n8 n9 W
  · exact text_tft n0 n2 n3 n4 n5 n6 n7 n8 n9 W
  · exact text_ttf n0 n2 n3 n4 n5 n6 n7 n8 n9 W
  · exact text_ttt n0 n2 n3 n4 n5 n6 n7 n8 n9 W

end Go.Proofs.YtnieeckdldpebaaGreat.Tg
