/- Texts of one kind, one behind the other: TrK. -/
import Derived.Deep.Cut
import Derived.Lib.SlBytesRow
import Derived.Test.YtnieeckdldpebaaGreatG25
import Derived.Test.YtnieeckdldpebaaGreatG44
/- Layer 19: the example's head, exactly; Bytes where a head's bytes are known (written by wip/gen/trk.py). -/
namespace Go.Proofs.YtnieeckdldpebaaGreat.Tg
open Go.ChangeShapes Go.WideShapes Go.ChangeAt Go.RowKit
open Go.Proofs.YtnieeckdldpebaaGreat.Le Go.Proofs.YtnieeckdldpebaaGreat.Sr
set_option linter.unusedVariables false

/-- Block c is these eighteen bytes. -/
def U8x (c : Nat) (L : List UInt8) (w : World) : Prop := L.length = 18 ∧ w.heap[c]? = some (.cells (L.map u8v).toArray 5 (0, 0))
theorem U8x.cell {c : Nat} {L : List UInt8} {w : World} (h : U8x c L w) (i : Nat) (hi : i < 18) : ∃ x : Int, w.cell? ⟨c, i, none⟩ = some (.int .u8 x) ∧ w.frozen? ⟨c, i, none⟩ = false ∧ 0 ≤ x ∧ x ≤ 255 ∧ x = ((L.getD i 0).toNat : Int) := by
  obtain ⟨hL, hb⟩ := h
  have hi' : i < L.length := by omega
  have e : L.getD i 0 = L[i]'hi' := by simp [List.getD_eq_getElem?_getD, hi']
  refine ⟨((L[i]'hi').toNat : Int), ?_, blk_free hb i, by omega, by have := (L[i]'hi').toNat_lt; omega, by rw [e]⟩
  have := blk_cell hb i
  rw [this]
  simp [u8v, hi']
theorem U8x.set {c : Nat} {L : List UInt8} {w : World} (h : U8x c L w) (i : Nat) (x : Int) (hx : 0 ≤ x ∧ x ≤ 255) : U8x c (L.set i (UInt8.ofNat x.toNat)) (w.setCell ⟨c, i, none⟩ (.int .u8 x)) := by
  obtain ⟨hL, hb⟩ := h
  refine ⟨by simp [hL], ?_⟩
  have e : u8v (UInt8.ofNat x.toNat) = .int .u8 x := by
    unfold u8v
    congr 1
    rw [UInt8.toNat_ofNat']
    omega
  have := blk_set hb i (.int .u8 x)
  rw [this, List.map_set, e]
  simp
theorem U8x.conv {c : Nat} {L : List UInt8} {w : World} (h : U8x c L w) : (convert 25 9 (.slice (some ⟨c, 0, none⟩) 18 18)).run Tryz.prog w = .ok (.string ⟨L.toArray⟩) w := by
  obtain ⟨hL, hb⟩ := h
  have hz : (⟨L.toArray⟩ : ByteArray).size = 18 := by show L.toArray.size = 18; simp [hL]
  have hc : Lib.Bytes w c 0 ⟨L.toArray⟩ := by
    intro i hi
    have hi' : i < L.length := by rw [hz] at hi; omega
    have := blk_cell hb (0 + i)
    rw [this]
    simp [u8v, hi']
    rfl
  have := Lib.run_convert_whole (P := Tryz.prog) w 25 5 9 (by kernel_rfl) (by kernel_rfl) (by kernel_rfl) c 0 ⟨L.toArray⟩ hc 18
  rw [hz] at this
  exact this
/-- A head's fields in block b, these eighteen bytes in block c. -/
structure TX (W : World) (b c : Nat) (A : Array Value) (L : List UInt8) (w : World) : Prop where
  u : U8x c L w
  h : w.heap[b]? = some (.cells A 55 (0, 0))
  gb : W.grownBy w none
  cW : W.heap.size ≤ c
  ne : b ≠ c
theorem TX.set {W w : World} {b c : Nat} {A : Array Value} {L : List UInt8} (h : TX W b c A L w) {i : Nat} {x : Int} (hx : 0 ≤ x ∧ x ≤ 255) : TX W b c A (L.set i (UInt8.ofNat x.toNat)) (w.setCell ⟨c, i, none⟩ (.int .u8 x)) :=
  ⟨h.u.set i x hx, blk_other h.h h.ne, gb_own h.gb h.cW (gb_set _ _ _ _), h.cW, h.ne⟩
theorem TX.as {W w : World} {b c : Nat} {A : Array Value} {L M : List UInt8} (h : TX W b c A L w) (e : L = M) : TX W b c A M w := e ▸ h

set_option maxRecDepth 100000 in
/-- A number's two bytes, put one behind the other. -/
theorem putx_calls (W : World) (b c : Nat) (A : Array Value) (L : List UInt8) (k : Nat) (v : Nat) (ki x : Int) (hki : ki = k) (hx : x = v) (w : World) (hk : k + 1 < 18) (hv : v < 256) (I : TX W b c A L w) :
    Calls Tryz.prog 72 #[  .slice (some ⟨c, 0, none⟩) 18 18, .int .i64 ki, .int .i64 x] w fun e w' => e = .returned (.tuple #[]) ∧ TX W b c A ((L.set k (UInt8.ofNat v)).set (k + 1) 0) w' := by
  subst hki hx
  obtain ⟨x0, q0, f0, _, _, _⟩ := I.u.cell k (by omega)
  obtain ⟨x1, q1, f1, _, _, _⟩ := I.u.cell (k + 1) (by omega)
  have i0 : (k : Int) < 18 := by omega
  have i1 : (k : Int) + 1 < 18 := by omega
  have s1 : IntKind.i64.wrap ((k : Int) + 1) = (k : Int) + 1 := by rw [IntKind.wrap_i64]; omega
  have HI := Lib.hid I
  have hw : IntKind.u8.wrap (v : Int) = v := by rw [IntKind.wrap_u8]; omega
  have hd : (v : Int) / 256 = 0 := by omega
  clear I
  go_enter Tryz.func72, Tryz.ntmps72
  go_wp2
  first | go_end0 | (simp only [Exit.inBlock, Exit.then]; refine bodyPost_ret (results_none rfl _ _ _) rfl ?_) | refine bodyPost_ret (results_none rfl _ _ _) rfl ?_
  refine ⟨rfl, ?_⟩
  refine TX.as (TX.set (TX.set HI.out ⟨?_, ?_⟩) ⟨?_, ?_⟩) ?_
  all_goals first | rfl | omega | decide

def exH : ByteArray := ⟨#[0, 0, 2, 0, 0, 0, 0, 0, 0, 0, 0, 0, 1, 0, 1, 0, 32, 8]⟩
set_option maxRecDepth 100000 in
set_option maxHeartbeats 4000000 in
theorem textx (W : World) :
    Calls Tryz.prog 43 #[.agg #[.int .i64 0, .bool false, .int .i64 2, .int .i64 0, .int .i64 0, .int .i64 0, .int .i64 1, .int .i64 1, .int .i64 32, .int .i64 8, .bool false, .bool false]] W fun e w' => e = .returned (.string exH) ∧ W.grownBy w' none := by
    go_enter Tryz.func43, Tryz.ntmps43
    go_upto_region 2 with fail
    refine abs_w5 (R := TX W W.heap.size (W.heap.size + 1) #[.int .i64 0, .bool false, .int .i64 2, .int .i64 0, .int .i64 0, .int .i64 0, .int .i64 1, .int .i64 1, .int .i64 32, .int .i64 8, .bool false, .bool false] [0, 0, 0, 0, 0, 0, 0, 0, 0, 0, 0, 0, 0, 0, 0, 0, 0, 0]) ?_ (fun w2 I => ?_)
    · refine ⟨⟨rfl, ?_⟩, ?_, ?_, by omega, by omega⟩
      · rw [← size_alloc W (.cells #[.int .i64 0, .bool false, .int .i64 2, .int .i64 0, .int .i64 0, .int .i64 0, .int .i64 1, .int .i64 1, .int .i64 32, .int .i64 8, .bool false, .bool false] 55)]
        show ((W.alloc (.cells #[.int .i64 0, .bool false, .int .i64 2, .int .i64 0, .int .i64 0, .int .i64 0, .int .i64 1, .int .i64 1, .int .i64 32, .int .i64 8, .bool false, .bool false] 55)).heap.push _)[(W.alloc (.cells #[.int .i64 0, .bool false, .int .i64 2, .int .i64 0, .int .i64 0, .int .i64 0, .int .i64 1, .int .i64 1, .int .i64 32, .int .i64 8, .bool false, .bool false] 55)).heap.size]? = some _
        exact push_at _ _ _ (by kernel_rfl)
      · exact blk_al (w := W.alloc (.cells #[.int .i64 0, .bool false, .int .i64 2, .int .i64 0, .int .i64 0, .int .i64 0, .int .i64 1, .int .i64 1, .int .i64 32, .int .i64 8, .bool false, .bool false] 55)) blk_at (.cells _ 5)
      · exact gb_trans (World.grownBy_alloc _ _ _) (World.grownBy_alloc (W.alloc (.cells #[.int .i64 0, .bool false, .int .i64 2, .int .i64 0, .int .i64 0, .int .i64 0, .int .i64 1, .int .i64 1, .int .i64 32, .int .i64 8, .bool false, .bool false] 55)) (.cells _ 5) none)
    have a0 := blk_cell I.h 0
    have a1 := blk_cell I.h 1
    have a2 := blk_cell I.h 2
    have a3 := blk_cell I.h 3
    have a4 := blk_cell I.h 4
    have a5 := blk_cell I.h 5
    have a6 := blk_cell I.h 6
    have a7 := blk_cell I.h 7
    have a8 := blk_cell I.h 8
    have a9 := blk_cell I.h 9
    have a10 := blk_cell I.h 10
    have a11 := blk_cell I.h 11
    simp only [List.getElem?_toArray, List.getElem?_cons_succ, List.getElem?_cons_zero] at a0 a1 a2 a3 a4 a5 a6 a7 a8 a9 a10 a11
    obtain ⟨y0, q0, f0, l0, r0, z0⟩ := I.u.cell 0 (by decide)
    simp [List.getD] at z0
    subst z0
    obtain ⟨y1, q1, f1, l1, r1, z1⟩ := I.u.cell 1 (by decide)
    simp [List.getD] at z1
    subst z1
    obtain ⟨y2, q2, f2, l2, r2, z2⟩ := I.u.cell 2 (by decide)
    simp [List.getD] at z2
    subst z2
    have HI := Lib.hid I
    clear I
    go_wp2_with fail
    refine (putx_calls W W.heap.size (W.heap.size + 1) #[.int .i64 0, .bool false, .int .i64 2, .int .i64 0, .int .i64 0, .int .i64 0, .int .i64 1, .int .i64 1, .int .i64 32, .int .i64 8, .bool false, .bool false] [0, 0, 2, 0, 0, 0, 0, 0, 0, 0, 0, 0, 0, 0, 0, 0, 0, 0] 3 0 3 0 rfl rfl _ (by decide) (by decide) (TX.as (TX.set (TX.set HI.out ⟨by decide, by decide⟩) ⟨by decide, by decide⟩) (by first | decide | kernel_rfl))).mono ?_
    rintro e w3 ⟨rfl, I3⟩
    clear a0 a1 a2 a3 a4 a5 a6 a7 a8 a9 a10 a11 q0 q1 q2 f0 f1 f2 HI
    replace I3 := TX.as I3 (show _ = [0, 0, 2, 0, 0, 0, 0, 0, 0, 0, 0, 0, 0, 0, 0, 0, 0, 0] by decide)
    have a0 := blk_cell I3.h 0
    have a1 := blk_cell I3.h 1
    have a2 := blk_cell I3.h 2
    have a3 := blk_cell I3.h 3
    have a4 := blk_cell I3.h 4
    have a5 := blk_cell I3.h 5
    have a6 := blk_cell I3.h 6
    have a7 := blk_cell I3.h 7
    have a8 := blk_cell I3.h 8
    have a9 := blk_cell I3.h 9
    have a10 := blk_cell I3.h 10
    have a11 := blk_cell I3.h 11
    simp only [List.getElem?_toArray, List.getElem?_cons_succ, List.getElem?_cons_zero] at a0 a1 a2 a3 a4 a5 a6 a7 a8 a9 a10 a11
    have HI := Lib.hid I3
    clear I3
    go_wp2_with fail
    refine (putx_calls W W.heap.size (W.heap.size + 1) #[.int .i64 0, .bool false, .int .i64 2, .int .i64 0, .int .i64 0, .int .i64 0, .int .i64 1, .int .i64 1, .int .i64 32, .int .i64 8, .bool false, .bool false] _ 5 0 5 0 rfl rfl _ (by decide) (by decide) HI.out).mono ?_
    rintro e w4 ⟨rfl, I4⟩
    clear a0 a1 a2 a3 a4 a5 a6 a7 a8 a9 a10 a11 HI
    replace I4 := TX.as I4 (show _ = [0, 0, 2, 0, 0, 0, 0, 0, 0, 0, 0, 0, 0, 0, 0, 0, 0, 0] by decide)
    have a0 := blk_cell I4.h 0
    have a1 := blk_cell I4.h 1
    have a2 := blk_cell I4.h 2
    have a3 := blk_cell I4.h 3
    have a4 := blk_cell I4.h 4
    have a5 := blk_cell I4.h 5
    have a6 := blk_cell I4.h 6
    have a7 := blk_cell I4.h 7
    have a8 := blk_cell I4.h 8
    have a9 := blk_cell I4.h 9
    have a10 := blk_cell I4.h 10
    have a11 := blk_cell I4.h 11
    simp only [List.getElem?_toArray, List.getElem?_cons_succ, List.getElem?_cons_zero] at a0 a1 a2 a3 a4 a5 a6 a7 a8 a9 a10 a11
    obtain ⟨y7, q7, f7, l7, r7, z7⟩ := I4.u.cell 7 (by decide)
    simp [List.getD] at z7
    subst z7
    have HI := Lib.hid I4
    clear I4
    go_wp2_with fail
    refine (putx_calls W W.heap.size (W.heap.size + 1) #[.int .i64 0, .bool false, .int .i64 2, .int .i64 0, .int .i64 0, .int .i64 0, .int .i64 1, .int .i64 1, .int .i64 32, .int .i64 8, .bool false, .bool false] [0, 0, 2, 0, 0, 0, 0, 0, 0, 0, 0, 0, 0, 0, 0, 0, 0, 0] 12 1 12 1 rfl rfl _ (by decide) (by decide) (TX.as (TX.set HI.out ⟨by decide, by decide⟩) (by first | decide | kernel_rfl))).mono ?_
    rintro e w5 ⟨rfl, I5⟩
    clear a0 a1 a2 a3 a4 a5 a6 a7 a8 a9 a10 a11 HI q7 f7
    replace I5 := TX.as I5 (show _ = [0, 0, 2, 0, 0, 0, 0, 0, 0, 0, 0, 0, 1, 0, 0, 0, 0, 0] by decide)
    have a0 := blk_cell I5.h 0
    have a1 := blk_cell I5.h 1
    have a2 := blk_cell I5.h 2
    have a3 := blk_cell I5.h 3
    have a4 := blk_cell I5.h 4
    have a5 := blk_cell I5.h 5
    have a6 := blk_cell I5.h 6
    have a7 := blk_cell I5.h 7
    have a8 := blk_cell I5.h 8
    have a9 := blk_cell I5.h 9
    have a10 := blk_cell I5.h 10
    have a11 := blk_cell I5.h 11
    simp only [List.getElem?_toArray, List.getElem?_cons_succ, List.getElem?_cons_zero] at a0 a1 a2 a3 a4 a5 a6 a7 a8 a9 a10 a11
    have HI := Lib.hid I5
    clear I5
    go_wp2_with fail
    refine (putx_calls W W.heap.size (W.heap.size + 1) #[.int .i64 0, .bool false, .int .i64 2, .int .i64 0, .int .i64 0, .int .i64 0, .int .i64 1, .int .i64 1, .int .i64 32, .int .i64 8, .bool false, .bool false] _ 14 1 14 1 rfl rfl _ (by decide) (by decide) HI.out).mono ?_
    rintro e w6 ⟨rfl, I6⟩
    clear a0 a1 a2 a3 a4 a5 a6 a7 a8 a9 a10 a11 HI
    replace I6 := TX.as I6 (show _ = [0, 0, 2, 0, 0, 0, 0, 0, 0, 0, 0, 0, 1, 0, 1, 0, 0, 0] by decide)
    have a0 := blk_cell I6.h 0
    have a1 := blk_cell I6.h 1
    have a2 := blk_cell I6.h 2
    have a3 := blk_cell I6.h 3
    have a4 := blk_cell I6.h 4
    have a5 := blk_cell I6.h 5
    have a6 := blk_cell I6.h 6
    have a7 := blk_cell I6.h 7
    have a8 := blk_cell I6.h 8
    have a9 := blk_cell I6.h 9
    have a10 := blk_cell I6.h 10
    have a11 := blk_cell I6.h 11
    simp only [List.getElem?_toArray, List.getElem?_cons_succ, List.getElem?_cons_zero] at a0 a1 a2 a3 a4 a5 a6 a7 a8 a9 a10 a11
    obtain ⟨y16, q16, f16, l16, r16, z16⟩ := I6.u.cell 16 (by decide)
    simp [List.getD] at z16
    subst z16
    obtain ⟨y17, q17, f17, l17, r17, z17⟩ := I6.u.cell 17 (by decide)
    simp [List.getD] at z17
    subst z17
    have HI := Lib.hid I6
    clear I6
    go_upto_region 13 with fail
    refine abs_w5 (R := TX W W.heap.size (W.heap.size + 1) #[.int .i64 0, .bool false, .int .i64 2, .int .i64 0, .int .i64 0, .int .i64 0, .int .i64 1, .int .i64 1, .int .i64 32, .int .i64 8, .bool false, .bool false] [0, 0, 2, 0, 0, 0, 0, 0, 0, 0, 0, 0, 1, 0, 1, 0, 32, 8]) (TX.as (TX.set (TX.set HI.out ⟨by decide, by decide⟩) ⟨by decide, by decide⟩) (by first | decide | kernel_rfl)) (fun w7 I7 => ?_)
    clear a0 a1 a2 a3 a4 a5 a6 a7 a8 a9 a10 a11 HI q16 f16 q17 f17
    have a0 := blk_cell I7.h 0
    have a1 := blk_cell I7.h 1
    have a2 := blk_cell I7.h 2
    have a3 := blk_cell I7.h 3
    have a4 := blk_cell I7.h 4
    have a5 := blk_cell I7.h 5
    have a6 := blk_cell I7.h 6
    have a7 := blk_cell I7.h 7
    have a8 := blk_cell I7.h 8
    have a9 := blk_cell I7.h 9
    have a10 := blk_cell I7.h 10
    have a11 := blk_cell I7.h 11
    simp only [List.getElem?_toArray, List.getElem?_cons_succ, List.getElem?_cons_zero] at a0 a1 a2 a3 a4 a5 a6 a7 a8 a9 a10 a11
    have HI := Lib.hid I7
    clear I7
    have hcv := HI.out.u.conv
    go_wp2
    go_ret
    exact ⟨rfl, HI.out.gb⟩

theorem hEq_is (z : ByteArray) (n0 n2 n3 n4 n5 n6 n7 n8 n9 : Int) (mp lf tp : Bool) (h : hA z = #[.int .i64 n0, .bool mp, .int .i64 n2, .int .i64 n3, .int .i64 n4, .int .i64 n5, .int .i64 n6, .int .i64 n7, .int .i64 n8, .int .i64 n9, .bool lf, .bool tp]) :
    hEq (bn z 0) (bn z 2) (fst z) (cnt z) (ent z) (wd z 12) (wd z 14) (bn z 16) (alp z) n0 n2 n3 n4 n5 n6 n7 n8 n9 (mpB z) (lft z) (tpp z) mp lf tp = true := by
  unfold hA at h
  simp only [Array.mk.injEq, List.cons.injEq, Value.int.injEq, Value.bool.injEq, true_and, and_true] at h
  unfold hEq
  exact decide_eq_true (by simpa using h)

set_option maxRecDepth 100000 in
set_option maxHeartbeats 4000000 in
theorem bytesx_ok (z : ByteArray) (hz : z.size = 18) (C : Ck z 12) (n0 n2 n3 n4 n5 n6 n7 n8 n9 : Int) (mp lf tp : Bool) (W : World) (hA' : hA z = #[.int .i64 n0, .bool mp, .int .i64 n2, .int .i64 n3, .int .i64 n4, .int .i64 n5, .int .i64 n6, .int .i64 n7, .int .i64 n8, .int .i64 n9, .bool lf, .bool tp]) (KT0 : ∀ u, Calls Tryz.prog 43 #[.agg #[.int .i64 n0, .bool mp, .int .i64 n2, .int .i64 n3, .int .i64 n4, .int .i64 n5, .int .i64 n6, .int .i64 n7, .int .i64 n8, .int .i64 n9, .bool lf, .bool tp]] u fun e w' => e = .returned (.string z) ∧ u.grownBy w' none) :
    Calls Tryz.prog 21 #[.agg #[.int .i64 n0, .bool mp, .int .i64 n2, .int .i64 n3, .int .i64 n4, .int .i64 n5, .int .i64 n6, .int .i64 n7, .int .i64 n8, .int .i64 n9, .bool lf, .bool tp]] W fun e w' => e = .returned (.tuple #[.string z, .int .i64 0]) ∧ W.grownBy w' none := by
  have KT := Lib.hid KT0
  have hE := hEq_is z n0 n2 n3 n4 n5 n6 n7 n8 n9 mp lf tp hA'
  clear KT0 hA'
  go_enter Tryz.func21, Tryz.ntmps21
  go_wp2_with fail
  refine (KT.out _).mono ?_
  rintro e w1 ⟨rfl, g1⟩
  have HB1 := Lib.hid (show w1.heap[W.heap.size]? = some (.cells #[.int .i64 n0, .bool mp, .int .i64 n2, .int .i64 n3, .int .i64 n4, .int .i64 n5, .int .i64 n6, .int .i64 n7, .int .i64 n8, .int .i64 n9, .bool lf, .bool tp] 55 (0, 0)) from old1 g1 (by simp))
  have G1 := Lib.hid (gb_trans (World.grownBy_alloc _ _ _) g1)
  have HZ := Lib.hid hz
  have HC := Lib.hid C
  have KW := Lib.hid (fun u => wrong_calls z 12 u (by omega) (by omega) C)
  have KF0 := fun u => fields_calls z u (by omega) (by omega)
  unfold hA at KF0
  have KF := Lib.hid KF0
  clear g1 C KT hz KF0
  go_wp2_with fail
  refine (KW.out _).mono ?_
  rintro e w2 ⟨rfl, g2⟩
  have G2 := Lib.hid (gb_trans G1.out g2)
  have HB2 := Lib.hid (old0 g2 HB1.out (blk_lt HB1.out) (by simp))
  clear g2 KW HB1
  have k0 : (kdK 12 == 0) = true := rfl
  have k0' : (kdK 12 != 0) = false := rfl
  have hq := fun u => head_eql (bn z 0) (bn z 2) (fst z) (cnt z) (ent z) (wd z 12) (wd z 14) (bn z 16) (alp z) n0 n2 n3 n4 n5 n6 n7 n8 n9 (mpB z) (lft z) (tpp z) mp lf tp u
  simp only [hE] at hq
  have HD := Lib.hid hE
  clear hE
  have HQ := Lib.hid hq
  clear hq
  obtain ⟨kk, hkk⟩ : ∃ x, kdK 12 = x := ⟨_, rfl⟩
  rw [hkk] at k0 k0' ⊢
  clear hkk
  have hne := fun u => head_neq (bn z 0) (bn z 2) (fst z) (cnt z) (ent z) (wd z 12) (wd z 14) (bn z 16) (alp z) n0 n2 n3 n4 n5 n6 n7 n8 n9 (mpB z) (lft z) (tpp z) mp lf tp u
  simp only [HD.out] at hne
  have c0 := blk_cell HB2.out 0
  have c1 := blk_cell HB2.out 1
  have c2 := blk_cell HB2.out 2
  have c3 := blk_cell HB2.out 3
  have c4 := blk_cell HB2.out 4
  have c5 := blk_cell HB2.out 5
  have c6 := blk_cell HB2.out 6
  have c7 := blk_cell HB2.out 7
  have c8 := blk_cell HB2.out 8
  have c9 := blk_cell HB2.out 9
  have c10 := blk_cell HB2.out 10
  have c11 := blk_cell HB2.out 11
  have clt := blk_lt HB2.out
  go_wp2_with fail
  go_region_held3 (fun w' => w'.cell? ⟨W.heap.size, 0, none⟩ = some (.int .i64 n0) ∧ w'.cell? ⟨W.heap.size, 1, none⟩ = some (.bool mp) ∧ w'.cell? ⟨W.heap.size, 2, none⟩ = some (.int .i64 n2) ∧ w'.cell? ⟨W.heap.size, 3, none⟩ = some (.int .i64 n3) ∧ w'.cell? ⟨W.heap.size, 4, none⟩ = some (.int .i64 n4) ∧ w'.cell? ⟨W.heap.size, 5, none⟩ = some (.int .i64 n5) ∧ w'.cell? ⟨W.heap.size, 6, none⟩ = some (.int .i64 n6) ∧ w'.cell? ⟨W.heap.size, 7, none⟩ = some (.int .i64 n7) ∧ w'.cell? ⟨W.heap.size, 8, none⟩ = some (.int .i64 n8) ∧ w'.cell? ⟨W.heap.size, 9, none⟩ = some (.int .i64 n9) ∧ w'.cell? ⟨W.heap.size, 10, none⟩ = some (.bool lf) ∧ w'.cell? ⟨W.heap.size, 11, none⟩ = some (.bool tp)) (go_keep)
    (first | (go_at_call 45; refine (KF.out _).mono ?_; rintro e w3 ⟨rfl, g3⟩; have G3 := Lib.hid (gb_trans (gb_trans G2.out (gb_drew _ _)) g3); have HB3 := Lib.hid (old0 g3 (dn1 HB2.out) (blk_lt (dn1 HB2.out)) (by simp)); have k0 := blk_cell HB3.out 0; have k1 := blk_cell HB3.out 1; have k2 := blk_cell HB3.out 2; have k3 := blk_cell HB3.out 3; have k4 := blk_cell HB3.out 4; have k5 := blk_cell HB3.out 5; have k6 := blk_cell HB3.out 6; have k7 := blk_cell HB3.out 7; have k8 := blk_cell HB3.out 8; have k9 := blk_cell HB3.out 9; have k10 := blk_cell HB3.out 10; have k11 := blk_cell HB3.out 11))
  all_goals
      clear c0 c1 c2 c3 c4 c5 c6 c7 c8 c9 c10 c11 k0 k1 k2 k3 k4 k5 k6 k7 k8 k9 k10 k11
      go_wp2
      go_ret2
      exact ⟨rfl, G3.out⟩

theorem exh_ck : Ck exH 12 := ⟨by decide, rfl, by decide +kernel⟩
set_option maxRecDepth 100000 in
theorem exbytes_calls (W : World) : Calls Tryz.prog 21 #[.agg #[.int .i64 0, .bool false, .int .i64 2, .int .i64 0, .int .i64 0, .int .i64 0, .int .i64 1, .int .i64 1, .int .i64 32, .int .i64 8, .bool false, .bool false]] W fun e w' => e = .returned (.tuple #[.string exH, .int .i64 0]) ∧ W.grownBy w' none :=
  bytesx_ok exH (by decide) exh_ck 0 2 0 0 0 1 1 32 8 false false false W (by kernel_rfl) (fun u => textx u)

end Go.Proofs.YtnieeckdldpebaaGreat.Tg
