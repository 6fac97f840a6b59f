/- Texts of one kind, one behind the other: Db3, Db4, Db5, Db6. -/
import Derived.Deep.LoopGhost
import Derived.Deep.RegionHeld3
import Derived.Test.YtikjfmpdfeaooaaDoorG34
/- Layer 20: a head's bytes, with masks, walked (written by wip/gen/dbt.py). -/
namespace Go.Proofs.YtikjfmpdfeaooaaDoor.Dh
open Go.ChangeShapes Go.WideShapes Go.ChangeAt Go.RowKit
open Go.Proofs.YtikjfmpdfeaooaaDoor.Le Go.Proofs.YtikjfmpdfeaooaaDoor.Sr Go.Proofs.YtikjfmpdfeaooaaDoor.Ma
set_option linter.unusedVariables false

set_option maxRecDepth 100000 in
set_option maxHeartbeats 8000000 in
theorem text_masked (S X Y D C p : Int) (tp : Bool) (v0 v1 v2 v3 v4 v5 v6 v7 : Int) (W : World) (r0 r1 r2 : Int) (K00 : ∀ u, Calls Tryd.prog 36 #[.agg #[.int .i64 v0, .int .i64 v1]] u fun e w' => e = .returned (.int .i64 r0) ∧ u.grownBy w' none) (K10 : ∀ u, Calls Tryd.prog 36 #[.agg #[.int .i64 v2, .int .i64 v3]] u fun e w' => e = .returned (.int .i64 r1) ∧ u.grownBy w' none) (K20 : ∀ u, Calls Tryd.prog 36 #[.agg #[.int .i64 v4, .int .i64 v5]] u fun e w' => e = .returned (.int .i64 r2) ∧ u.grownBy w' none) :
    Calls Tryd.prog 40 #[.agg #[.int .i64 S, .int .i64 X, .int .i64 Y, .bool tp, .int .i64 D, .int .i64 3, .int .i64 C, .int .i64 v0, .int .i64 v1, .int .i64 v2, .int .i64 v3, .int .i64 v4, .int .i64 v5, .int .i64 v6, .int .i64 v7, .int .i64 p]] W fun e w' => e = .returned (.string ⟨(txC S X Y tp D C r0 r1 r2).toArray⟩) ∧ W.grownBy w' none := by
  obtain ⟨Z, hZ⟩ : ∃ Z, txC S X Y tp D C r0 r1 r2 = Z := ⟨_, rfl⟩
  rw [hZ]
  have HZ := Lib.hid hZ
  clear hZ
  have KP := (fun u => places_calls 40 u)
  rw [show pcA 40 = #[.int .i64 8, .int .i64 12, .int .i64 14] from rfl] at KP
  have KP := Lib.hid KP
  have KSG := Lib.hid (fun u => signed_calls Y tp u)
  have KAC := Lib.hid (fun u => allcolors_calls D u)
  obtain ⟨ac, hac⟩ : ∃ a, allC D = a := ⟨_, rfl⟩
  obtain ⟨sg, hsg⟩ : ∃ a, hV Y tp = a := ⟨_, rfl⟩
  rw [hac] at KAC
  rw [hsg] at KSG
  have HAC := Lib.hid hac
  have HSG := Lib.hid hsg
  clear hac hsg
  have K0 := Lib.hid K00
  have K1 := Lib.hid K10
  have K2 := Lib.hid K20
  clear K00 K10 K20
  have ix0 : ∀ w : World, (Instr.index 120 (.agg #[.int .i64 v0, .int .i64 v1, .int .i64 v2, .int .i64 v3, .int .i64 v4, .int .i64 v5]) (.int .i64 0)).run Tryd.prog w = .ok (.agg #[.int .i64 v0, .int .i64 v1]) w := fun w => by kernel_rfl
  have ix1 : ∀ w : World, (Instr.index 120 (.agg #[.int .i64 v0, .int .i64 v1, .int .i64 v2, .int .i64 v3, .int .i64 v4, .int .i64 v5]) (.int .i64 1)).run Tryd.prog w = .ok (.agg #[.int .i64 v2, .int .i64 v3]) w := fun w => by kernel_rfl
  have ix2 : ∀ w : World, (Instr.index 120 (.agg #[.int .i64 v0, .int .i64 v1, .int .i64 v2, .int .i64 v3, .int .i64 v4, .int .i64 v5]) (.int .i64 2)).run Tryd.prog w = .ok (.agg #[.int .i64 v4, .int .i64 v5]) w := fun w => by kernel_rfl
  go_enter Tryd.func40, Tryd.ntmps40
  go_upto_region 5 with fail
  refine abs_w (R := fun w => w.heap[W.heap.size]? = some (.cells #[.int .i64 S, .int .i64 X, .int .i64 Y, .bool tp, .int .i64 D, .int .i64 3, .int .i64 C, .int .i64 v0, .int .i64 v1, .int .i64 v2, .int .i64 v3, .int .i64 v4, .int .i64 v5, .int .i64 v6, .int .i64 v7, .int .i64 p] 31 (0, 0)) ∧ UB (W.heap.size + 1) (List.replicate 52 0) w ∧ W.grownBy w none) ⟨?_, ?_, ?_⟩ (fun w1 I1 => ?_)
  · exact blk_al blk_at _
  · rw [← size_alloc W (.cells #[.int .i64 S, .int .i64 X, .int .i64 Y, .bool tp, .int .i64 D, .int .i64 3, .int .i64 C, .int .i64 v0, .int .i64 v1, .int .i64 v2, .int .i64 v3, .int .i64 v4, .int .i64 v5, .int .i64 v6, .int .i64 v7, .int .i64 p] 31)]
    exact push_at _ _ _ (by kernel_rfl)
  · exact gb_trans (World.grownBy_alloc _ _ none) (World.grownBy_alloc _ _ none)
  obtain ⟨A1, U1, G1⟩ := I1
  have HA1 := Lib.hid A1
  have HU1 := Lib.hid U1
  have HG1 := Lib.hid G1
  have lc := blk_lt U1
  clear A1 U1 G1
  simp only [size_alloc]
  obtain ⟨c, hc⟩ : ∃ c, W.heap.size + 1 = c := ⟨_, rfl⟩
  rw [hc] at HU1 lc ⊢
  have HC := Lib.hid hc
  clear hc
  go_wp2_with fail
  refine (KP.out _).mono ?_
  rintro e w2 ⟨rfl, g2⟩
  have ga := gb_trans g2 (World.grownBy_alloc w2 (.cells #[.int .i64 8, .int .i64 12, .int .i64 14] 104) none)
  have I3 : XI W #[.int .i64 S, .int .i64 X, .int .i64 Y, .bool tp, .int .i64 D, .int .i64 3, .int .i64 C, .int .i64 v0, .int .i64 v1, .int .i64 v2, .int .i64 v3, .int .i64 v4, .int .i64 v5, .int .i64 v6, .int .i64 v7, .int .i64 p] (List.replicate 52 0) 52 c w2.heap.size (w2.alloc (.cells #[.int .i64 8, .int .i64 12, .int .i64 14] 104)) :=
    ⟨old0 ga HA1.out (blk_lt HA1.out) (by simp), old0 ga HU1.out (blk_lt HU1.out) (by simp), blk_at, gb_trans HG1.out ga, by have := HC.out; omega, Nat.lt_of_lt_of_le lc g2.size, List.length_replicate⟩
  clear g2 ga HA1 HU1 HG1 lc KP
  go_upto_region 6 with fail
  obtain ⟨pb, hpb⟩ : ∃ k, w2.heap.size = k := ⟨_, rfl⟩
  rw [hpb] at I3 ⊢
  generalize w2.alloc (.cells #[.int .i64 8, .int .i64 12, .int .i64 14] 104) = w3 at I3 ⊢
  clear hpb
  have h0 := blk_cell I3.h 0
  have h1 := blk_cell I3.h 1
  have h2 := blk_cell I3.h 2
  have h3 := blk_cell I3.h 3
  have h4 := blk_cell I3.h 4
  have h5 := blk_cell I3.h 5
  have h6 := blk_cell I3.h 6
  have h7 := blk_cell I3.h 7
  have h8 := blk_cell I3.h 8
  have h9 := blk_cell I3.h 9
  have h10 := blk_cell I3.h 10
  have h11 := blk_cell I3.h 11
  have h12 := blk_cell I3.h 12
  have h13 := blk_cell I3.h 13
  have h14 := blk_cell I3.h 14
  have h15 := blk_cell I3.h 15
  have q0 := blk_cell I3.p 0
  have q1 := blk_cell I3.p 1
  have q2 := blk_cell I3.p 2
  have l0 := blk_lt I3.h
  have l1 := blk_lt I3.p
  simp only [List.getElem?_toArray, List.getElem?_cons_succ, List.getElem?_cons_zero] at h0 h1 h2 h3 h4 h5 h6 h7 h8 h9 h10 h11 h12 h13 h14 h15 q0 q1 q2
  have HI := Lib.hid I3
  clear I3
  go_wp2_with fail
  refine (put_at c _ 52 0 4 S _ HI.out.u HI.out.n (by decide) (by decide) (by decide)).mono ?_
  rintro e w9 ⟨rfl, U9, g9⟩
  have I9 := HI.out.put U9 g9 (by rw [putL_len]; exact HI.out.n)
  clear U9 g9 HI h0 h1 h2 h3 h4 h5 h6 h7 h8 h9 h10 h11 h12 h13 h14 h15 q0 q1 q2 l0 l1
  have h0 := blk_cell I9.h 0
  have h1 := blk_cell I9.h 1
  have h2 := blk_cell I9.h 2
  have h3 := blk_cell I9.h 3
  have h4 := blk_cell I9.h 4
  have h5 := blk_cell I9.h 5
  have h6 := blk_cell I9.h 6
  have h7 := blk_cell I9.h 7
  have h8 := blk_cell I9.h 8
  have h9 := blk_cell I9.h 9
  have h10 := blk_cell I9.h 10
  have h11 := blk_cell I9.h 11
  have h12 := blk_cell I9.h 12
  have h13 := blk_cell I9.h 13
  have h14 := blk_cell I9.h 14
  have h15 := blk_cell I9.h 15
  have q0 := blk_cell I9.p 0
  have q1 := blk_cell I9.p 1
  have q2 := blk_cell I9.p 2
  have l0 := blk_lt I9.h
  have l1 := blk_lt I9.p
  simp only [List.getElem?_toArray, List.getElem?_cons_succ, List.getElem?_cons_zero] at h0 h1 h2 h3 h4 h5 h6 h7 h8 h9 h10 h11 h12 h13 h14 h15 q0 q1 q2
  have HI := Lib.hid I9
  clear I9
  go_wp2_with fail
  refine (put_at c _ 52 4 4 X _ HI.out.u HI.out.n (by decide) (by decide) (by decide)).mono ?_
  rintro e w9 ⟨rfl, U9, g9⟩
  have I9 := HI.out.put U9 g9 (by rw [putL_len]; exact HI.out.n)
  clear U9 g9 HI h0 h1 h2 h3 h4 h5 h6 h7 h8 h9 h10 h11 h12 h13 h14 h15 q0 q1 q2 l0 l1
  have h0 := blk_cell I9.h 0
  have h1 := blk_cell I9.h 1
  have h2 := blk_cell I9.h 2
  have h3 := blk_cell I9.h 3
  have h4 := blk_cell I9.h 4
  have h5 := blk_cell I9.h 5
  have h6 := blk_cell I9.h 6
  have h7 := blk_cell I9.h 7
  have h8 := blk_cell I9.h 8
  have h9 := blk_cell I9.h 9
  have h10 := blk_cell I9.h 10
  have h11 := blk_cell I9.h 11
  have h12 := blk_cell I9.h 12
  have h13 := blk_cell I9.h 13
  have h14 := blk_cell I9.h 14
  have h15 := blk_cell I9.h 15
  have q0 := blk_cell I9.p 0
  have q1 := blk_cell I9.p 1
  have q2 := blk_cell I9.p 2
  have l0 := blk_lt I9.h
  have l1 := blk_lt I9.p
  simp only [List.getElem?_toArray, List.getElem?_cons_succ, List.getElem?_cons_zero] at h0 h1 h2 h3 h4 h5 h6 h7 h8 h9 h10 h11 h12 h13 h14 h15 q0 q1 q2
  have HI := Lib.hid I9
  clear I9
  go_upto_region 8 with fail
  go_region_held3 (fun u => u.cell? ⟨pb, 0, none⟩ = some (.int .i64 8) ∧ u.cell? ⟨W.heap.size, 2, none⟩ = some (.int .i64 Y) ∧ u.cell? ⟨W.heap.size, 3, none⟩ = some (.bool tp)) (go_keep)
    (first
      | (go_at_call 61; with_reducible refine (KSG.out _).mono ?_; rintro e w' ⟨rfl, rfl⟩)
      | (go_at_call 60; have HI2 := Lib.hid (HI.out.gb (gb_drew _ none)); refine (put_at c _ 52 8 4 sg _ HI2.out.u HI2.out.n (by decide) (by decide) (by decide)).mono ?_; rintro e u9 ⟨rfl, U9, g9⟩; have J9 := HI2.out.put U9 g9 (by rw [putL_len]; exact HI2.out.n); have y0 := blk_cell J9.p 0; have y2 := blk_cell J9.h 2; have y3 := blk_cell J9.h 3; simp only [List.getElem?_toArray, List.getElem?_cons_succ, List.getElem?_cons_zero] at y0 y2 y3; have HJ9 := Lib.hid J9; clear U9 g9 J9))
  have I9 := HJ9.out
  clear HI HI2 HJ9 y0 y2 y3 h0 h1 h2 h3 h4 h5 h6 h7 h8 h9 h10 h11 h12 h13 h14 h15 q0 q1 q2 l0 l1
  have h0 := blk_cell I9.h 0
  have h1 := blk_cell I9.h 1
  have h2 := blk_cell I9.h 2
  have h3 := blk_cell I9.h 3
  have h4 := blk_cell I9.h 4
  have h5 := blk_cell I9.h 5
  have h6 := blk_cell I9.h 6
  have h7 := blk_cell I9.h 7
  have h8 := blk_cell I9.h 8
  have h9 := blk_cell I9.h 9
  have h10 := blk_cell I9.h 10
  have h11 := blk_cell I9.h 11
  have h12 := blk_cell I9.h 12
  have h13 := blk_cell I9.h 13
  have h14 := blk_cell I9.h 14
  have h15 := blk_cell I9.h 15
  have q0 := blk_cell I9.p 0
  have q1 := blk_cell I9.p 1
  have q2 := blk_cell I9.p 2
  have l0 := blk_lt I9.h
  have l1 := blk_lt I9.p
  simp only [List.getElem?_toArray, List.getElem?_cons_succ, List.getElem?_cons_zero] at h0 h1 h2 h3 h4 h5 h6 h7 h8 h9 h10 h11 h12 h13 h14 h15 q0 q1 q2
  have HI := Lib.hid I9
  clear I9
  go_wp2_with fail
  refine (put_at c _ 52 12 2 1 _ HI.out.u HI.out.n (by decide) (by decide) (by decide)).mono ?_
  rintro e w9 ⟨rfl, U9, g9⟩
  have I9 := HI.out.put U9 g9 (by rw [putL_len]; exact HI.out.n)
  clear U9 g9 HI h0 h1 h2 h3 h4 h5 h6 h7 h8 h9 h10 h11 h12 h13 h14 h15 q0 q1 q2 l0 l1
  have h0 := blk_cell I9.h 0
  have h1 := blk_cell I9.h 1
  have h2 := blk_cell I9.h 2
  have h3 := blk_cell I9.h 3
  have h4 := blk_cell I9.h 4
  have h5 := blk_cell I9.h 5
  have h6 := blk_cell I9.h 6
  have h7 := blk_cell I9.h 7
  have h8 := blk_cell I9.h 8
  have h9 := blk_cell I9.h 9
  have h10 := blk_cell I9.h 10
  have h11 := blk_cell I9.h 11
  have h12 := blk_cell I9.h 12
  have h13 := blk_cell I9.h 13
  have h14 := blk_cell I9.h 14
  have h15 := blk_cell I9.h 15
  have q0 := blk_cell I9.p 0
  have q1 := blk_cell I9.p 1
  have q2 := blk_cell I9.p 2
  have l0 := blk_lt I9.h
  have l1 := blk_lt I9.p
  simp only [List.getElem?_toArray, List.getElem?_cons_succ, List.getElem?_cons_zero] at h0 h1 h2 h3 h4 h5 h6 h7 h8 h9 h10 h11 h12 h13 h14 h15 q0 q1 q2
  have HI := Lib.hid I9
  clear I9
  go_wp2_with fail
  refine (put_at c _ 52 14 2 D _ HI.out.u HI.out.n (by decide) (by decide) (by decide)).mono ?_
  rintro e w9 ⟨rfl, U9, g9⟩
  have I9 := HI.out.put U9 g9 (by rw [putL_len]; exact HI.out.n)
  clear U9 g9 HI h0 h1 h2 h3 h4 h5 h6 h7 h8 h9 h10 h11 h12 h13 h14 h15 q0 q1 q2 l0 l1
  have h0 := blk_cell I9.h 0
  have h1 := blk_cell I9.h 1
  have h2 := blk_cell I9.h 2
  have h3 := blk_cell I9.h 3
  have h4 := blk_cell I9.h 4
  have h5 := blk_cell I9.h 5
  have h6 := blk_cell I9.h 6
  have h7 := blk_cell I9.h 7
  have h8 := blk_cell I9.h 8
  have h9 := blk_cell I9.h 9
  have h10 := blk_cell I9.h 10
  have h11 := blk_cell I9.h 11
  have h12 := blk_cell I9.h 12
  have h13 := blk_cell I9.h 13
  have h14 := blk_cell I9.h 14
  have h15 := blk_cell I9.h 15
  have q0 := blk_cell I9.p 0
  have q1 := blk_cell I9.p 1
  have q2 := blk_cell I9.p 2
  have l0 := blk_lt I9.h
  have l1 := blk_lt I9.p
  simp only [List.getElem?_toArray, List.getElem?_cons_succ, List.getElem?_cons_zero] at h0 h1 h2 h3 h4 h5 h6 h7 h8 h9 h10 h11 h12 h13 h14 h15 q0 q1 q2
  have HI := Lib.hid I9
  clear I9
  go_wp2_with fail
  refine (put_at c _ 52 16 4 3 _ HI.out.u HI.out.n (by decide) (by decide) (by decide)).mono ?_
  rintro e w9 ⟨rfl, U9, g9⟩
  have I9 := HI.out.put U9 g9 (by rw [putL_len]; exact HI.out.n)
  clear U9 g9 HI h0 h1 h2 h3 h4 h5 h6 h7 h8 h9 h10 h11 h12 h13 h14 h15 q0 q1 q2 l0 l1
  have h0 := blk_cell I9.h 0
  have h1 := blk_cell I9.h 1
  have h2 := blk_cell I9.h 2
  have h3 := blk_cell I9.h 3
  have h4 := blk_cell I9.h 4
  have h5 := blk_cell I9.h 5
  have h6 := blk_cell I9.h 6
  have h7 := blk_cell I9.h 7
  have h8 := blk_cell I9.h 8
  have h9 := blk_cell I9.h 9
  have h10 := blk_cell I9.h 10
  have h11 := blk_cell I9.h 11
  have h12 := blk_cell I9.h 12
  have h13 := blk_cell I9.h 13
  have h14 := blk_cell I9.h 14
  have h15 := blk_cell I9.h 15
  have q0 := blk_cell I9.p 0
  have q1 := blk_cell I9.p 1
  have q2 := blk_cell I9.p 2
  have l0 := blk_lt I9.h
  have l1 := blk_lt I9.p
  simp only [List.getElem?_toArray, List.getElem?_cons_succ, List.getElem?_cons_zero] at h0 h1 h2 h3 h4 h5 h6 h7 h8 h9 h10 h11 h12 h13 h14 h15 q0 q1 q2
  have HI := Lib.hid I9
  clear I9
  by_cases hC : C = ac
  · have c1 : (C != ac) = false := by rw [bne_eq_false_iff_eq]; exact hC
    have HCE := Lib.hid hC
    clear hC
    go_upto_region 12 with fail
    go_region_held3 (fun u => u.cell? ⟨W.heap.size, 6, none⟩ = some (.int .i64 C) ∧ u.cell? ⟨W.heap.size, 4, none⟩ = some (.int .i64 D)) (go_keep)
      (first
        | (go_at_call 54; with_reducible refine (KAC.out _).mono ?_; rintro e w' ⟨rfl, rfl⟩))
    have I9 := HI.out.gb (gb_drew _ none)
    clear HI h0 h1 h2 h3 h4 h5 h6 h7 h8 h9 h10 h11 h12 h13 h14 h15 q0 q1 q2 l0 l1
    have h0 := blk_cell I9.h 0
    have h1 := blk_cell I9.h 1
    have h2 := blk_cell I9.h 2
    have h3 := blk_cell I9.h 3
    have h4 := blk_cell I9.h 4
    have h5 := blk_cell I9.h 5
    have h6 := blk_cell I9.h 6
    have h7 := blk_cell I9.h 7
    have h8 := blk_cell I9.h 8
    have h9 := blk_cell I9.h 9
    have h10 := blk_cell I9.h 10
    have h11 := blk_cell I9.h 11
    have h12 := blk_cell I9.h 12
    have h13 := blk_cell I9.h 13
    have h14 := blk_cell I9.h 14
    have h15 := blk_cell I9.h 15
    have q0 := blk_cell I9.p 0
    have q1 := blk_cell I9.p 1
    have q2 := blk_cell I9.p 2
    have l0 := blk_lt I9.h
    have l1 := blk_lt I9.p
    simp only [List.getElem?_toArray, List.getElem?_cons_succ, List.getElem?_cons_zero] at h0 h1 h2 h3 h4 h5 h6 h7 h8 h9 h10 h11 h12 h13 h14 h15 q0 q1 q2
    have HI := Lib.hid I9
    clear I9
    go_wp2_with fail
    go_loopg [70] 3 (fun mq iv wr => ∃ k : Nat, k ≤ 3 ∧ mq = 3 - k ∧ iv = .int .i64 k ∧ XI W #[.int .i64 S, .int .i64 X, .int .i64 Y, .bool tp, .int .i64 D, .int .i64 3, .int .i64 C, .int .i64 v0, .int .i64 v1, .int .i64 v2, .int .i64 v3, .int .i64 v4, .int .i64 v5, .int .i64 v6, .int .i64 v7, .int .i64 p] (lm3 (putL (putL (putL (putL (putL (putL (List.replicate 52 0) 0 S 4) 4 X 4) 8 sg 4) 12 1 2) 14 D 2) 16 3 4) r0 r1 r2 k) 52 c pb wr)
    case atStart => exact ⟨0, by omega, rfl, rfl, HI.out⟩
    case round =>
      obtain ⟨k, hk, rfl, rfl, J⟩ := hrel
      clear HI h0 h1 h2 h3 h4 h5 h6 h7 h8 h9 h10 h11 h12 h13 h14 h15 q0 q1 q2 l0 l1
      obtain rfl | rfl | rfl | rfl : k = 0 ∨ k = 1 ∨ k = 2 ∨ k = 3 := by omega
      · have HJ := Lib.hid J
        clear J
        go_wp2_with fail
        refine (K0.out _).mono ?_
        rintro e u8 ⟨rfl, g8⟩
        have HJ8 := Lib.hid (HJ.out.gb (gb_trans (World.grownBy_alloc _ _ none) g8))
        clear g8 HJ
        go_wp2_with fail
        refine (put_at c _ 52 40 4 r0 _ HJ8.out.u HJ8.out.n (by decide) (by decide) (by decide)).mono ?_
        rintro e u9 ⟨rfl, U9, g9⟩
        have HJ9 := Lib.hid (HJ8.out.put U9 g9 (by rw [putL_len]; exact HJ8.out.n))
        clear U9 g9 HJ8
        go_wp2
        go_roundg (3 - 1)
        case measure => omega
        case rel => exact ⟨1, by omega, rfl, by first | rfl | go_num, HJ9.out⟩
      · have HJ := Lib.hid J
        clear J
        go_wp2_with fail
        refine (K1.out _).mono ?_
        rintro e u8 ⟨rfl, g8⟩
        have HJ8 := Lib.hid (HJ.out.gb (gb_trans (World.grownBy_alloc _ _ none) g8))
        clear g8 HJ
        go_wp2_with fail
        refine (put_at c _ 52 44 4 r1 _ HJ8.out.u HJ8.out.n (by decide) (by decide) (by decide)).mono ?_
        rintro e u9 ⟨rfl, U9, g9⟩
        have HJ9 := Lib.hid (HJ8.out.put U9 g9 (by rw [putL_len]; exact HJ8.out.n))
        clear U9 g9 HJ8
        go_wp2
        go_roundg (3 - 2)
        case measure => omega
        case rel => exact ⟨2, by omega, rfl, by first | rfl | go_num, HJ9.out⟩
      · have HJ := Lib.hid J
        clear J
        go_wp2_with fail
        refine (K2.out _).mono ?_
        rintro e u8 ⟨rfl, g8⟩
        have HJ8 := Lib.hid (HJ.out.gb (gb_trans (World.grownBy_alloc _ _ none) g8))
        clear g8 HJ
        go_wp2_with fail
        refine (put_at c _ 52 48 4 r2 _ HJ8.out.u HJ8.out.n (by decide) (by decide) (by decide)).mono ?_
        rintro e u9 ⟨rfl, U9, g9⟩
        have HJ9 := Lib.hid (HJ8.out.put U9 g9 (by rw [putL_len]; exact HJ8.out.n))
        clear U9 g9 HJ8
        go_wp2
        go_roundg (3 - 3)
        case measure => omega
        case rel => exact ⟨3, by omega, rfl, by first | rfl | go_num, HJ9.out⟩
      · have HJ := Lib.hid J
        clear J
        have cv := conv_at c _ 52 _ HJ.out.u HJ.out.n
        have HZ2 := HZ.out
        unfold txC txB txA at HZ2
        rw [HAC.out, HSG.out, if_pos HCE.out] at HZ2
        unfold lm3 at cv
        rw [HZ2] at cv
        clear HZ2
        go_wp2
        go_ret
        exact ⟨rfl, HJ.out.g⟩
  · have c1 : (C != ac) = true := by rw [bne_iff_ne]; exact hC
    have HCE := Lib.hid hC
    clear hC
    go_upto_region 12 with fail
    go_region_held3 (fun u => u.cell? ⟨W.heap.size, 6, none⟩ = some (.int .i64 C) ∧ u.cell? ⟨W.heap.size, 4, none⟩ = some (.int .i64 D)) (go_keep)
      (first
        | (go_at_call 54; with_reducible refine (KAC.out _).mono ?_; rintro e w' ⟨rfl, rfl⟩))
    have I9 := HI.out.gb (gb_drew _ none)
    clear HI h0 h1 h2 h3 h4 h5 h6 h7 h8 h9 h10 h11 h12 h13 h14 h15 q0 q1 q2 l0 l1
    have h0 := blk_cell I9.h 0
    have h1 := blk_cell I9.h 1
    have h2 := blk_cell I9.h 2
    have h3 := blk_cell I9.h 3
    have h4 := blk_cell I9.h 4
    have h5 := blk_cell I9.h 5
    have h6 := blk_cell I9.h 6
    have h7 := blk_cell I9.h 7
    have h8 := blk_cell I9.h 8
    have h9 := blk_cell I9.h 9
    have h10 := blk_cell I9.h 10
    have h11 := blk_cell I9.h 11
    have h12 := blk_cell I9.h 12
    have h13 := blk_cell I9.h 13
    have h14 := blk_cell I9.h 14
    have h15 := blk_cell I9.h 15
    have q0 := blk_cell I9.p 0
    have q1 := blk_cell I9.p 1
    have q2 := blk_cell I9.p 2
    have l0 := blk_lt I9.h
    have l1 := blk_lt I9.p
    simp only [List.getElem?_toArray, List.getElem?_cons_succ, List.getElem?_cons_zero] at h0 h1 h2 h3 h4 h5 h6 h7 h8 h9 h10 h11 h12 h13 h14 h15 q0 q1 q2
    have HI := Lib.hid I9
    clear I9
    go_wp2_with fail
    refine (put_at c _ 52 32 4 C _ HI.out.u HI.out.n (by decide) (by decide) (by decide)).mono ?_
    rintro e w9 ⟨rfl, U9, g9⟩
    have I9 := HI.out.put U9 g9 (by rw [putL_len]; exact HI.out.n)
    clear U9 g9 HI h0 h1 h2 h3 h4 h5 h6 h7 h8 h9 h10 h11 h12 h13 h14 h15 q0 q1 q2 l0 l1
    have h0 := blk_cell I9.h 0
    have h1 := blk_cell I9.h 1
    have h2 := blk_cell I9.h 2
    have h3 := blk_cell I9.h 3
    have h4 := blk_cell I9.h 4
    have h5 := blk_cell I9.h 5
    have h6 := blk_cell I9.h 6
    have h7 := blk_cell I9.h 7
    have h8 := blk_cell I9.h 8
    have h9 := blk_cell I9.h 9
    have h10 := blk_cell I9.h 10
    have h11 := blk_cell I9.h 11
    have h12 := blk_cell I9.h 12
    have h13 := blk_cell I9.h 13
    have h14 := blk_cell I9.h 14
    have h15 := blk_cell I9.h 15
    have q0 := blk_cell I9.p 0
    have q1 := blk_cell I9.p 1
    have q2 := blk_cell I9.p 2
    have l0 := blk_lt I9.h
    have l1 := blk_lt I9.p
    simp only [List.getElem?_toArray, List.getElem?_cons_succ, List.getElem?_cons_zero] at h0 h1 h2 h3 h4 h5 h6 h7 h8 h9 h10 h11 h12 h13 h14 h15 q0 q1 q2
    have HI := Lib.hid I9
    clear I9
    go_wp2_with fail
    go_loopg [70] 3 (fun mq iv wr => ∃ k : Nat, k ≤ 3 ∧ mq = 3 - k ∧ iv = .int .i64 k ∧ XI W #[.int .i64 S, .int .i64 X, .int .i64 Y, .bool tp, .int .i64 D, .int .i64 3, .int .i64 C, .int .i64 v0, .int .i64 v1, .int .i64 v2, .int .i64 v3, .int .i64 v4, .int .i64 v5, .int .i64 v6, .int .i64 v7, .int .i64 p] (lm3 (putL (putL (putL (putL (putL (putL (putL (List.replicate 52 0) 0 S 4) 4 X 4) 8 sg 4) 12 1 2) 14 D 2) 16 3 4) 32 C 4) r0 r1 r2 k) 52 c pb wr)
    case atStart => exact ⟨0, by omega, rfl, rfl, HI.out⟩
    case round =>
      obtain ⟨k, hk, rfl, rfl, J⟩ := hrel
      clear HI h0 h1 h2 h3 h4 h5 h6 h7 h8 h9 h10 h11 h12 h13 h14 h15 q0 q1 q2 l0 l1
      obtain rfl | rfl | rfl | rfl : k = 0 ∨ k = 1 ∨ k = 2 ∨ k = 3 := by omega
      · have HJ := Lib.hid J
        clear J
        go_wp2_with fail
        refine (K0.out _).mono ?_
        rintro e u8 ⟨rfl, g8⟩
        have HJ8 := Lib.hid (HJ.out.gb (gb_trans (World.grownBy_alloc _ _ none) g8))
        clear g8 HJ
        go_wp2_with fail
        refine (put_at c _ 52 40 4 r0 _ HJ8.out.u HJ8.out.n (by decide) (by decide) (by decide)).mono ?_
        rintro e u9 ⟨rfl, U9, g9⟩
        have HJ9 := Lib.hid (HJ8.out.put U9 g9 (by rw [putL_len]; exact HJ8.out.n))
        clear U9 g9 HJ8
        go_wp2
        go_roundg (3 - 1)
        case measure => omega
        case rel => exact ⟨1, by omega, rfl, by first | rfl | go_num, HJ9.out⟩
      · have HJ := Lib.hid J
        clear J
        go_wp2_with fail
        refine (K1.out _).mono ?_
        rintro e u8 ⟨rfl, g8⟩
        have HJ8 := Lib.hid (HJ.out.gb (gb_trans (World.grownBy_alloc _ _ none) g8))
        clear g8 HJ
        go_wp2_with fail
        refine (put_at c _ 52 44 4 r1 _ HJ8.out.u HJ8.out.n (by decide) (by decide) (by decide)).mono ?_
        rintro e u9 ⟨rfl, U9, g9⟩
        have HJ9 := Lib.hid (HJ8.out.put U9 g9 (by rw [putL_len]; exact HJ8.out.n))
        clear U9 g9 HJ8
        go_wp2
        go_roundg (3 - 2)
        case measure => omega
        case rel => exact ⟨2, by omega, rfl, by first | rfl | go_num, HJ9.out⟩
      · have HJ := Lib.hid J
        clear J
        go_wp2_with fail
        refine (K2.out _).mono ?_
        rintro e u8 ⟨rfl, g8⟩
        have HJ8 := Lib.hid (HJ.out.gb (gb_trans (World.grownBy_alloc _ _ none) g8))
        clear g8 HJ
        go_wp2_with fail
        refine (put_at c _ 52 48 4 r2 _ HJ8.out.u HJ8.out.n (by decide) (by decide) (by decide)).mono ?_
        rintro e u9 ⟨rfl, U9, g9⟩
        have HJ9 := Lib.hid (HJ8.out.put U9 g9 (by rw [putL_len]; exact HJ8.out.n))
        clear U9 g9 HJ8
        go_wp2
        go_roundg (3 - 3)
        case measure => omega
        case rel => exact ⟨3, by omega, rfl, by first | rfl | go_num, HJ9.out⟩
      · have HJ := Lib.hid J
        clear J
        have cv := conv_at c _ 52 _ HJ.out.u HJ.out.n
        have HZ2 := HZ.out
        unfold txC txB txA at HZ2
        rw [HAC.out, HSG.out, if_neg HCE.out] at HZ2
        unfold lm3 at cv
        rw [HZ2] at cv
        clear HZ2
        go_wp2
        go_ret
        exact ⟨rfl, HJ.out.g⟩

end Go.Proofs.YtikjfmpdfeaooaaDoor.Dh

/- Layer 20: told; Bytes (written by wip/gen/dbb.py). -/
namespace Go.Proofs.YtikjfmpdfeaooaaDoor.Dh
open Go.ChangeShapes Go.WideShapes Go.ChangeAt Go.RowKit
open Go.Proofs.YtikjfmpdfeaooaaDoor.Le Go.Proofs.YtikjfmpdfeaooaaDoor.Sr Go.Proofs.YtikjfmpdfeaooaaDoor.Ma
set_option linter.unusedVariables false

theorem drew_heap {w : World} {k : Nat} {o : Obj} (h : w.heap[k]? = some o) : w.drew.heap[k]? = some o := h

set_option maxRecDepth 100000 in
set_option maxHeartbeats 2000000 in
theorem told_vals (B : ByteArray) (hB : B.size ≤ 1000) (z0 z1 z2 : Int) (z3 : Bool) (z4 z5 z6 z7 z8 z9 z10 z11 z12 z13 z14 z15 : Int) (kk a0 : Int) (t : Bool) (ht : (kk == 0) = t) (q : Nat) (y : St) (W : World) (hlt : 0 < W.heap.size) (hT : Tab W) (KR : CRd B 0 0 (LW 3 0) q y (.agg #[.int .i64 z0, .int .i64 z1, .int .i64 z2, .bool z3, .int .i64 z4, .int .i64 z5, .int .i64 z6, .int .i64 z7, .int .i64 z8, .int .i64 z9, .int .i64 z10, .int .i64 z11, .int .i64 z12, .int .i64 z13, .int .i64 z14, .int .i64 z15]) (flV kk 0 a0)) :
    Calls Tryd.prog 41 #[.string B] W fun e w' => e = .returned (.tuple #[.agg #[.int .i64 z0, .int .i64 z1, .int .i64 z2, .bool z3, .int .i64 z4, .int .i64 z5, .int .i64 z6, .int .i64 z7, .int .i64 z8, .int .i64 z9, .int .i64 z10, .int .i64 z11, .int .i64 z12, .int .i64 z13, .int .i64 z14, .int .i64 z15], .bool t]) ∧ W.grownBy w' none := by
  have KRD := Lib.hid KR
  unfold CRd flV at KRD
  clear KR
  go_enter Tryd.func41, Tryd.ntmps41
  go_upto_region 1 with fail
  have A0 := blk_at (w := W) (o := .cells #[.int .i64 0, .int .i64 0, .int .i64 0, .bool false, .int .i64 0, .int .i64 0, .int .i64 0, .int .i64 0, .int .i64 0, .int .i64 0, .int .i64 0, .int .i64 0, .int .i64 0, .int .i64 0, .int .i64 0, .int .i64 0] 31)
  have G0 := World.grownBy_alloc W (.cells #[.int .i64 0, .int .i64 0, .int .i64 0, .bool false, .int .i64 0, .int .i64 0, .int .i64 0, .int .i64 0, .int .i64 0, .int .i64 0, .int .i64 0, .int .i64 0, .int .i64 0, .int .i64 0, .int .i64 0, .int .i64 0] 31) none
  generalize W.alloc (.cells #[.int .i64 0, .int .i64 0, .int .i64 0, .bool false, .int .i64 0, .int .i64 0, .int .i64 0, .int .i64 0, .int .i64 0, .int .i64 0, .int .i64 0, .int .i64 0, .int .i64 0, .int .i64 0, .int .i64 0, .int .i64 0] 31) = w0 at A0 G0 ⊢
  have HA0 := Lib.hid A0
  have HG0 := Lib.hid G0
  have hl0 := blk_lt A0
  clear A0 G0
  go_wp2_with fail
  refine (wnew_calls 3 (by decide) _).mono ?_
  rintro e w1 ⟨l, rfl, L1, g1, hl⟩
  have HL1 := Lib.hid L1
  have HA1 := Lib.hid (old0 g1 HA0.out (blk_lt HA0.out) (by simp))
  have HG1 := Lib.hid (gb_trans HG0.out g1)
  have hlw := L1.lt
  have hsz := g1.size
  clear L1 g1 HA0 HG0
  go_wp2_with fail
  refine (snew_calls l B _ (by omega)).mono ?_
  rintro e w2 ⟨c, rfl, S2, g2, hc⟩
  have S2 : SL c l B 0 0 B.size (LW 3 0) w2 := ⟨S2 hlw, HL1.out.grown g2 (by simp)⟩
  have HS2 := Lib.hid S2
  have HA2 := Lib.hid (old0 g2 HA1.out (blk_lt HA1.out) (by simp))
  have HG2 := Lib.hid (gb_trans HG1.out g2)
  have hcl : W.heap.size < c ∧ W.heap.size < l := ⟨by omega, by omega⟩
  have HCL := Lib.hid hcl
  clear S2 g2 HL1 HA1 HG1 hlw hsz hc hl hl0 hcl
  go_wp2_with fail
  refine (KRD.out c l 0 _ HS2.out (hT.grown hlt HG2.out) (by have := HCL.out; omega) (by have := HCL.out; omega)).mono ?_
  rintro e w3 ⟨rfl, S3, t3⟩
  have G3 : W.grownBy w3 none := Tn.own HG2.out t3 (by intro x hx; have := HCL.out; simp at hx; omega)
  have A3 := (t3.block _ (blk_lt HA2.out) (by have := HCL.out; simp; omega)).trans HA2.out
  have gg := gb_trans (World.grownBy_alloc w3 (.cells #[.int .i64 z0, .int .i64 z1, .int .i64 z2, .bool z3, .int .i64 z4, .int .i64 z5, .int .i64 z6, .int .i64 z7, .int .i64 z8, .int .i64 z9, .int .i64 z10, .int .i64 z11, .int .i64 z12, .int .i64 z13, .int .i64 z14, .int .i64 z15] 31) none) (World.grownBy_alloc (w3.alloc (.cells #[.int .i64 z0, .int .i64 z1, .int .i64 z2, .bool z3, .int .i64 z4, .int .i64 z5, .int .i64 z6, .int .i64 z7, .int .i64 z8, .int .i64 z9, .int .i64 z10, .int .i64 z11, .int .i64 z12, .int .i64 z13, .int .i64 z14, .int .i64 z15] 31)) (.cells #[.int .i64 kk, .int .i64 0, .int .i64 a0] 33) none)
  have A4 := old0 gg A3 (blk_lt A3) (by simp)
  have G4 := gb_trans G3 gg
  have B4 : ((w3.alloc (.cells #[.int .i64 z0, .int .i64 z1, .int .i64 z2, .bool z3, .int .i64 z4, .int .i64 z5, .int .i64 z6, .int .i64 z7, .int .i64 z8, .int .i64 z9, .int .i64 z10, .int .i64 z11, .int .i64 z12, .int .i64 z13, .int .i64 z14, .int .i64 z15] 31)).alloc (.cells #[.int .i64 kk, .int .i64 0, .int .i64 a0] 33)).heap[w3.heap.size]? = some (.cells #[.int .i64 z0, .int .i64 z1, .int .i64 z2, .bool z3, .int .i64 z4, .int .i64 z5, .int .i64 z6, .int .i64 z7, .int .i64 z8, .int .i64 z9, .int .i64 z10, .int .i64 z11, .int .i64 z12, .int .i64 z13, .int .i64 z14, .int .i64 z15] 31 (0, 0)) := blk_al blk_at _
  have F4 : ((w3.alloc (.cells #[.int .i64 z0, .int .i64 z1, .int .i64 z2, .bool z3, .int .i64 z4, .int .i64 z5, .int .i64 z6, .int .i64 z7, .int .i64 z8, .int .i64 z9, .int .i64 z10, .int .i64 z11, .int .i64 z12, .int .i64 z13, .int .i64 z14, .int .i64 z15] 31)).alloc (.cells #[.int .i64 kk, .int .i64 0, .int .i64 a0] 33)).heap[w3.heap.size + 1]? = some (.cells #[.int .i64 kk, .int .i64 0, .int .i64 a0] 33 (0, 0)) := by
    rw [← size_alloc w3 (.cells #[.int .i64 z0, .int .i64 z1, .int .i64 z2, .bool z3, .int .i64 z4, .int .i64 z5, .int .i64 z6, .int .i64 z7, .int .i64 z8, .int .i64 z9, .int .i64 z10, .int .i64 z11, .int .i64 z12, .int .i64 z13, .int .i64 z14, .int .i64 z15] 31)]; exact blk_at
  have hlt3 := blk_lt A3
  clear S3 t3 G3 gg A3 HS2 HA2 HG2 HCL
  go_upto_region 3 with fail
  obtain ⟨hb, hhb⟩ : ∃ k, w3.heap.size = k := ⟨_, rfl⟩
  rw [hhb] at B4 F4 hlt3 ⊢
  generalize (w3.alloc (.cells #[.int .i64 z0, .int .i64 z1, .int .i64 z2, .bool z3, .int .i64 z4, .int .i64 z5, .int .i64 z6, .int .i64 z7, .int .i64 z8, .int .i64 z9, .int .i64 z10, .int .i64 z11, .int .i64 z12, .int .i64 z13, .int .i64 z14, .int .i64 z15] 31)).alloc (.cells #[.int .i64 kk, .int .i64 0, .int .i64 a0] 33) = w4 at A4 B4 F4 G4 ⊢
  clear hhb
  have a0 := blk_cell A4 0
  have f0 := blk_free A4 0
  have a1 := blk_cell A4 1
  have f1 := blk_free A4 1
  have a2 := blk_cell A4 2
  have f2 := blk_free A4 2
  have a3 := blk_cell A4 3
  have f3 := blk_free A4 3
  have a4 := blk_cell A4 4
  have f4 := blk_free A4 4
  have a5 := blk_cell A4 5
  have f5 := blk_free A4 5
  have a6 := blk_cell A4 6
  have f6 := blk_free A4 6
  have a7 := blk_cell A4 7
  have f7 := blk_free A4 7
  have a8 := blk_cell A4 8
  have f8 := blk_free A4 8
  have a9 := blk_cell A4 9
  have f9 := blk_free A4 9
  have a10 := blk_cell A4 10
  have f10 := blk_free A4 10
  have a11 := blk_cell A4 11
  have f11 := blk_free A4 11
  have a12 := blk_cell A4 12
  have f12 := blk_free A4 12
  have a13 := blk_cell A4 13
  have f13 := blk_free A4 13
  have a14 := blk_cell A4 14
  have f14 := blk_free A4 14
  have a15 := blk_cell A4 15
  have f15 := blk_free A4 15
  simp only [List.getElem?_toArray, List.getElem?_cons_succ, List.getElem?_cons_zero] at a0 a1 a2 a3 a4 a5 a6 a7 a8 a9 a10 a11 a12 a13 a14 a15
  have b0 := blk_cell B4 0
  have b1 := blk_cell B4 1
  have b2 := blk_cell B4 2
  have b3 := blk_cell B4 3
  have b4 := blk_cell B4 4
  have b5 := blk_cell B4 5
  have b6 := blk_cell B4 6
  have b7 := blk_cell B4 7
  have b8 := blk_cell B4 8
  have b9 := blk_cell B4 9
  have b10 := blk_cell B4 10
  have b11 := blk_cell B4 11
  have b12 := blk_cell B4 12
  have b13 := blk_cell B4 13
  have b14 := blk_cell B4 14
  have b15 := blk_cell B4 15
  simp only [List.getElem?_toArray, List.getElem?_cons_succ, List.getElem?_cons_zero] at b0 b1 b2 b3 b4 b5 b6 b7 b8 b9 b10 b11 b12 b13 b14 b15
  have d0 := blk_cell F4 0
  have d1 := blk_cell F4 1
  have d2 := blk_cell F4 2
  simp only [List.getElem?_toArray, List.getElem?_cons_succ, List.getElem?_cons_zero] at d0 d1 d2
  have l0 := blk_lt A4
  have l1 := blk_lt B4
  have l2 := blk_lt F4
  have n1 : ¬ hb = W.heap.size := by omega
  have n2 : ¬ W.heap.size = hb := by omega
  have n3 : ¬ hb + 1 = W.heap.size := by omega
  have n4 : ¬ W.heap.size = hb + 1 := by omega
  have HA4 := Lib.hid A4
  have HG4 := Lib.hid G4
  clear A4 B4 F4 G4
  go_region_held3 (fun u => u.cell? ⟨hb, 0, none⟩ = some (.int .i64 z0) ∧ u.cell? ⟨hb, 1, none⟩ = some (.int .i64 z1) ∧ u.cell? ⟨hb, 2, none⟩ = some (.int .i64 z2) ∧ u.cell? ⟨hb, 3, none⟩ = some (.bool z3) ∧ u.cell? ⟨hb, 4, none⟩ = some (.int .i64 z4) ∧ u.cell? ⟨hb, 5, none⟩ = some (.int .i64 z5) ∧ u.cell? ⟨hb, 6, none⟩ = some (.int .i64 z6) ∧ u.cell? ⟨hb, 7, none⟩ = some (.int .i64 z7) ∧ u.cell? ⟨hb, 8, none⟩ = some (.int .i64 z8) ∧ u.cell? ⟨hb, 9, none⟩ = some (.int .i64 z9) ∧ u.cell? ⟨hb, 10, none⟩ = some (.int .i64 z10) ∧ u.cell? ⟨hb, 11, none⟩ = some (.int .i64 z11) ∧ u.cell? ⟨hb, 12, none⟩ = some (.int .i64 z12) ∧ u.cell? ⟨hb, 13, none⟩ = some (.int .i64 z13) ∧ u.cell? ⟨hb, 14, none⟩ = some (.int .i64 z14) ∧ u.cell? ⟨hb, 15, none⟩ = some (.int .i64 z15) ∧ u.cell? ⟨hb + 1, 0, none⟩ = some (.int .i64 kk)) (go_keep)
    (fail)
  all_goals
    refine abs_w (R := fun w => w.heap[W.heap.size]? = some (.cells #[.int .i64 z0, .int .i64 z1, .int .i64 z2, .bool z3, .int .i64 z4, .int .i64 z5, .int .i64 z6, .int .i64 z7, .int .i64 z8, .int .i64 z9, .int .i64 z10, .int .i64 z11, .int .i64 z12, .int .i64 z13, .int .i64 z14, .int .i64 z15] 31 (0, 0)) ∧ W.grownBy w none) ⟨?_, ?_⟩ (fun wz RZ => ?_)
    · exact drew_heap (set16 HA4.out (.int .i64 z0) (.int .i64 z1) (.int .i64 z2) (.bool z3) (.int .i64 z4) (.int .i64 z5) (.int .i64 z6) (.int .i64 z7) (.int .i64 z8) (.int .i64 z9) (.int .i64 z10) (.int .i64 z11) (.int .i64 z12) (.int .i64 z13) (.int .i64 z14) (.int .i64 z15))
    · exact gb_trans (gb_own (gb_own (gb_own (gb_own (gb_own (gb_own (gb_own (gb_own (gb_own (gb_own (gb_own (gb_own (gb_own (gb_own (gb_own (gb_own (HG4.out) (Nat.le_refl _) (gb_set _ _ _ _)) (Nat.le_refl _) (gb_set _ _ _ _)) (Nat.le_refl _) (gb_set _ _ _ _)) (Nat.le_refl _) (gb_set _ _ _ _)) (Nat.le_refl _) (gb_set _ _ _ _)) (Nat.le_refl _) (gb_set _ _ _ _)) (Nat.le_refl _) (gb_set _ _ _ _)) (Nat.le_refl _) (gb_set _ _ _ _)) (Nat.le_refl _) (gb_set _ _ _ _)) (Nat.le_refl _) (gb_set _ _ _ _)) (Nat.le_refl _) (gb_set _ _ _ _)) (Nat.le_refl _) (gb_set _ _ _ _)) (Nat.le_refl _) (gb_set _ _ _ _)) (Nat.le_refl _) (gb_set _ _ _ _)) (Nat.le_refl _) (gb_set _ _ _ _)) (Nat.le_refl _) (gb_set _ _ _ _)) (gb_drew _ _)
    obtain ⟨A5, G5⟩ := RZ
    have HG5 := Lib.hid G5
    clear G5 HA4 HG4 a0 f0 b0 a1 f1 b1 a2 f2 b2 a3 f3 b3 a4 f4 b4 a5 f5 b5 a6 f6 b6 a7 f7 b7 a8 f8 b8 a9 f9 b9 a10 f10 b10 a11 f11 b11 a12 f12 b12 a13 f13 b13 a14 f14 b14 a15 f15 b15 d0 d1 d2 l0 l1 l2 n1 n2 n3 n4 hlt3
    have l5 := blk_lt A5
    have a0 := blk_cell A5 0
    have a1 := blk_cell A5 1
    have a2 := blk_cell A5 2
    have a3 := blk_cell A5 3
    have a4 := blk_cell A5 4
    have a5 := blk_cell A5 5
    have a6 := blk_cell A5 6
    have a7 := blk_cell A5 7
    have a8 := blk_cell A5 8
    have a9 := blk_cell A5 9
    have a10 := blk_cell A5 10
    have a11 := blk_cell A5 11
    have a12 := blk_cell A5 12
    have a13 := blk_cell A5 13
    have a14 := blk_cell A5 14
    have a15 := blk_cell A5 15
    simp only [List.getElem?_toArray, List.getElem?_cons_succ, List.getElem?_cons_zero] at a0 a1 a2 a3 a4 a5 a6 a7 a8 a9 a10 a11 a12 a13 a14 a15
    go_wp2
    refine bodyPost_ret (v := .tuple #[.agg #[.int .i64 z0, .int .i64 z1, .int .i64 z2, .bool z3, .int .i64 z4, .int .i64 z5, .int .i64 z6, .int .i64 z7, .int .i64 z8, .int .i64 z9, .int .i64 z10, .int .i64 z11, .int .i64 z12, .int .i64 z13, .int .i64 z14, .int .i64 z15], .bool t]) (by simp only [results, Tryd.results41]; go_simp) rfl ⟨rfl, HG5.out⟩

end Go.Proofs.YtikjfmpdfeaooaaDoor.Dh

/- Layer 20: Bytes (written by wip/gen/dbb.py). -/
namespace Go.Proofs.YtikjfmpdfeaooaaDoor.Dh
open Go.ChangeShapes Go.WideShapes Go.ChangeAt Go.RowKit
open Go.Proofs.YtikjfmpdfeaooaaDoor.Le Go.Proofs.YtikjfmpdfeaooaaDoor.Sr Go.Proofs.YtikjfmpdfeaooaaDoor.Ma
set_option linter.unusedVariables false

theorem bytes_size (S : Int) (x1 x2 : Int) (x3 : Bool) (x4 x5 x6 x7 x8 x9 x10 x11 x12 x13 x14 x15 : Int) (W : World) (hS : S ≠ 40) : Calls Tryd.prog 18 #[.agg #[.int .i64 S, .int .i64 x1, .int .i64 x2, .bool x3, .int .i64 x4, .int .i64 x5, .int .i64 x6, .int .i64 x7, .int .i64 x8, .int .i64 x9, .int .i64 x10, .int .i64 x11, .int .i64 x12, .int .i64 x13, .int .i64 x14, .int .i64 x15]] W fun e w' => e = .returned (.tuple #[.string ⟨#[]⟩, .int .i64 6]) ∧ W.grownBy w' none := by
  have h : (S != 40) = true := by rw [bne_iff_ne]; exact hS
  clear hS
  go_enter Tryd.func18, Tryd.ntmps18
  go_wp2
  go_ret2
  exact ⟨rfl, World.grownBy_alloc _ _ _⟩

set_option maxRecDepth 100000 in
set_option maxHeartbeats 8000000 in
theorem bytes_bad (B : ByteArray) (x1 x2 : Int) (x3 : Bool) (x4 x5 x6 x7 x8 x9 x10 x11 x12 x13 x14 x15 : Int) (z0 z1 z2 : Int) (z3 : Bool) (z4 z5 z6 z7 z8 z9 z10 z11 z12 z13 z14 z15 : Int) (W : World) (KX0 : ∀ u, Calls Tryd.prog 40 #[.agg #[.int .i64 40, .int .i64 x1, .int .i64 x2, .bool x3, .int .i64 x4, .int .i64 x5, .int .i64 x6, .int .i64 x7, .int .i64 x8, .int .i64 x9, .int .i64 x10, .int .i64 x11, .int .i64 x12, .int .i64 x13, .int .i64 x14, .int .i64 x15]] u fun e w' => e = .returned (.string B) ∧ u.grownBy w' none) (KT0 : ∀ u, W.grownBy u none → Calls Tryd.prog 41 #[.string B] u fun e w' => e = .returned (.tuple #[.agg #[.int .i64 z0, .int .i64 z1, .int .i64 z2, .bool z3, .int .i64 z4, .int .i64 z5, .int .i64 z6, .int .i64 z7, .int .i64 z8, .int .i64 z9, .int .i64 z10, .int .i64 z11, .int .i64 z12, .int .i64 z13, .int .i64 z14, .int .i64 z15], .bool false]) ∧ u.grownBy w' none) :
    Calls Tryd.prog 18 #[.agg #[.int .i64 40, .int .i64 x1, .int .i64 x2, .bool x3, .int .i64 x4, .int .i64 x5, .int .i64 x6, .int .i64 x7, .int .i64 x8, .int .i64 x9, .int .i64 x10, .int .i64 x11, .int .i64 x12, .int .i64 x13, .int .i64 x14, .int .i64 x15]] W fun e w' => e = .returned (.tuple #[.string ⟨#[]⟩, .int .i64 6]) ∧ W.grownBy w' none := by
  have KX := Lib.hid KX0
  have KT := Lib.hid KT0
  clear KX0 KT0
  go_enter Tryd.func18, Tryd.ntmps18
  go_upto_region 3 with fail
  have A0 := blk_at (w := W) (o := .cells #[.int .i64 40, .int .i64 x1, .int .i64 x2, .bool x3, .int .i64 x4, .int .i64 x5, .int .i64 x6, .int .i64 x7, .int .i64 x8, .int .i64 x9, .int .i64 x10, .int .i64 x11, .int .i64 x12, .int .i64 x13, .int .i64 x14, .int .i64 x15] 31)
  have G0 := World.grownBy_alloc W (.cells #[.int .i64 40, .int .i64 x1, .int .i64 x2, .bool x3, .int .i64 x4, .int .i64 x5, .int .i64 x6, .int .i64 x7, .int .i64 x8, .int .i64 x9, .int .i64 x10, .int .i64 x11, .int .i64 x12, .int .i64 x13, .int .i64 x14, .int .i64 x15] 31) none
  generalize W.alloc (.cells #[.int .i64 40, .int .i64 x1, .int .i64 x2, .bool x3, .int .i64 x4, .int .i64 x5, .int .i64 x6, .int .i64 x7, .int .i64 x8, .int .i64 x9, .int .i64 x10, .int .i64 x11, .int .i64 x12, .int .i64 x13, .int .i64 x14, .int .i64 x15] 31) = w0 at A0 G0 ⊢
  have a0 := blk_cell A0 0
  have f0 := blk_free A0 0
  have a1 := blk_cell A0 1
  have f1 := blk_free A0 1
  have a2 := blk_cell A0 2
  have f2 := blk_free A0 2
  have a3 := blk_cell A0 3
  have f3 := blk_free A0 3
  have a4 := blk_cell A0 4
  have f4 := blk_free A0 4
  have a5 := blk_cell A0 5
  have f5 := blk_free A0 5
  have a6 := blk_cell A0 6
  have f6 := blk_free A0 6
  have a7 := blk_cell A0 7
  have f7 := blk_free A0 7
  have a8 := blk_cell A0 8
  have f8 := blk_free A0 8
  have a9 := blk_cell A0 9
  have f9 := blk_free A0 9
  have a10 := blk_cell A0 10
  have f10 := blk_free A0 10
  have a11 := blk_cell A0 11
  have f11 := blk_free A0 11
  have a12 := blk_cell A0 12
  have f12 := blk_free A0 12
  have a13 := blk_cell A0 13
  have f13 := blk_free A0 13
  have a14 := blk_cell A0 14
  have f14 := blk_free A0 14
  have a15 := blk_cell A0 15
  have f15 := blk_free A0 15
  simp only [List.getElem?_toArray, List.getElem?_cons_succ, List.getElem?_cons_zero] at a0 a1 a2 a3 a4 a5 a6 a7 a8 a9 a10 a11 a12 a13 a14 a15
  have l0 := blk_lt A0
  have HA0 := Lib.hid A0
  have HG0 := Lib.hid G0
  clear A0 G0
  go_wp2_with fail
  refine (KX.out _).mono ?_
  rintro e w1 ⟨rfl, g1⟩
  have A1 := old0 g1 HA0.out (blk_lt HA0.out) (by simp)
  have G1 := gb_trans HG0.out g1
  clear g1 HA0 HG0 a0 f0 a1 f1 a2 f2 a3 f3 a4 f4 a5 f5 a6 f6 a7 f7 a8 f8 a9 f9 a10 f10 a11 f11 a12 f12 a13 f13 a14 f14 a15 f15 l0
  have a0 := blk_cell A1 0
  have f0 := blk_free A1 0
  have a1 := blk_cell A1 1
  have f1 := blk_free A1 1
  have a2 := blk_cell A1 2
  have f2 := blk_free A1 2
  have a3 := blk_cell A1 3
  have f3 := blk_free A1 3
  have a4 := blk_cell A1 4
  have f4 := blk_free A1 4
  have a5 := blk_cell A1 5
  have f5 := blk_free A1 5
  have a6 := blk_cell A1 6
  have f6 := blk_free A1 6
  have a7 := blk_cell A1 7
  have f7 := blk_free A1 7
  have a8 := blk_cell A1 8
  have f8 := blk_free A1 8
  have a9 := blk_cell A1 9
  have f9 := blk_free A1 9
  have a10 := blk_cell A1 10
  have f10 := blk_free A1 10
  have a11 := blk_cell A1 11
  have f11 := blk_free A1 11
  have a12 := blk_cell A1 12
  have f12 := blk_free A1 12
  have a13 := blk_cell A1 13
  have f13 := blk_free A1 13
  have a14 := blk_cell A1 14
  have f14 := blk_free A1 14
  have a15 := blk_cell A1 15
  have f15 := blk_free A1 15
  simp only [List.getElem?_toArray, List.getElem?_cons_succ, List.getElem?_cons_zero] at a0 a1 a2 a3 a4 a5 a6 a7 a8 a9 a10 a11 a12 a13 a14 a15
  have l0 := blk_lt A1
  have HA1 := Lib.hid A1
  have HG1 := Lib.hid G1
  clear A1 G1
  go_upto_region 5 with fail
  refine abs_w (R := fun w => w.heap[W.heap.size]? = some (.cells #[.int .i64 40, .int .i64 x1, .int .i64 x2, .bool x3, .int .i64 x4, .int .i64 x5, .int .i64 x6, .int .i64 x7, .int .i64 x8, .int .i64 x9, .int .i64 x10, .int .i64 x11, .int .i64 x12, .int .i64 x13, .int .i64 x14, .int .i64 0] 31 (0, 0)) ∧ W.grownBy w none) ⟨?_, ?_⟩ (fun w2 I2 => ?_)
  · exact blk_set HA1.out 15 (.int .i64 0)
  · exact gb_own HG1.out (Nat.le_refl _) (gb_set _ _ _ _)
  obtain ⟨A2, G2⟩ := I2
  clear HA1 HG1 a0 f0 a1 f1 a2 f2 a3 f3 a4 f4 a5 f5 a6 f6 a7 f7 a8 f8 a9 f9 a10 f10 a11 f11 a12 f12 a13 f13 a14 f14 a15 f15 l0
  have HA2 := Lib.hid A2
  have HG2 := Lib.hid G2
  clear A2 G2
  go_wp2_with fail
  refine (KT.out _ HG2.out).mono ?_
  rintro e w3 ⟨rfl, g3⟩
  have ga := gb_trans g3 (World.grownBy_alloc w3 (.cells #[.int .i64 z0, .int .i64 z1, .int .i64 z2, .bool z3, .int .i64 z4, .int .i64 z5, .int .i64 z6, .int .i64 z7, .int .i64 z8, .int .i64 z9, .int .i64 z10, .int .i64 z11, .int .i64 z12, .int .i64 z13, .int .i64 z14, .int .i64 z15] 31) none)
  have A4 := old0 ga HA2.out (blk_lt HA2.out) (by simp)
  have G4 := gb_trans HG2.out ga
  have B4 : (w3.alloc (.cells #[.int .i64 z0, .int .i64 z1, .int .i64 z2, .bool z3, .int .i64 z4, .int .i64 z5, .int .i64 z6, .int .i64 z7, .int .i64 z8, .int .i64 z9, .int .i64 z10, .int .i64 z11, .int .i64 z12, .int .i64 z13, .int .i64 z14, .int .i64 z15] 31)).heap[w3.heap.size]? = some (.cells #[.int .i64 z0, .int .i64 z1, .int .i64 z2, .bool z3, .int .i64 z4, .int .i64 z5, .int .i64 z6, .int .i64 z7, .int .i64 z8, .int .i64 z9, .int .i64 z10, .int .i64 z11, .int .i64 z12, .int .i64 z13, .int .i64 z14, .int .i64 z15] 31 (0, 0)) := blk_at
  clear g3 ga HA2 HG2
  go_upto_region 6 with fail
  obtain ⟨hb, hhb⟩ : ∃ k, w3.heap.size = k := ⟨_, rfl⟩
  rw [hhb] at B4 ⊢
  generalize w3.alloc (.cells #[.int .i64 z0, .int .i64 z1, .int .i64 z2, .bool z3, .int .i64 z4, .int .i64 z5, .int .i64 z6, .int .i64 z7, .int .i64 z8, .int .i64 z9, .int .i64 z10, .int .i64 z11, .int .i64 z12, .int .i64 z13, .int .i64 z14, .int .i64 z15] 31) = w4 at A4 B4 G4 ⊢
  clear hhb
  have a0 := blk_cell A4 0
  have a1 := blk_cell A4 1
  have a2 := blk_cell A4 2
  have a3 := blk_cell A4 3
  have a4 := blk_cell A4 4
  have a5 := blk_cell A4 5
  have a6 := blk_cell A4 6
  have a7 := blk_cell A4 7
  have a8 := blk_cell A4 8
  have a9 := blk_cell A4 9
  have a10 := blk_cell A4 10
  have a11 := blk_cell A4 11
  have a12 := blk_cell A4 12
  have a13 := blk_cell A4 13
  have a14 := blk_cell A4 14
  have a15 := blk_cell A4 15
  simp only [List.getElem?_toArray, List.getElem?_cons_succ, List.getElem?_cons_zero] at a0 a1 a2 a3 a4 a5 a6 a7 a8 a9 a10 a11 a12 a13 a14 a15
  have b0 := blk_cell B4 0
  have b1 := blk_cell B4 1
  have b2 := blk_cell B4 2
  have b3 := blk_cell B4 3
  have b4 := blk_cell B4 4
  have b5 := blk_cell B4 5
  have b6 := blk_cell B4 6
  have b7 := blk_cell B4 7
  have b8 := blk_cell B4 8
  have b9 := blk_cell B4 9
  have b10 := blk_cell B4 10
  have b11 := blk_cell B4 11
  have b12 := blk_cell B4 12
  have b13 := blk_cell B4 13
  have b14 := blk_cell B4 14
  have b15 := blk_cell B4 15
  simp only [List.getElem?_toArray, List.getElem?_cons_succ, List.getElem?_cons_zero] at b0 b1 b2 b3 b4 b5 b6 b7 b8 b9 b10 b11 b12 b13 b14 b15
  have HG4 := Lib.hid G4
  clear A4 B4 G4
  go_wp2
  go_ret2
  exact ⟨rfl, HG4.out⟩

set_option maxRecDepth 100000 in
set_option maxHeartbeats 8000000 in
theorem bytes_good (B : ByteArray) (x1 x2 : Int) (x3 : Bool) (x4 x5 x6 x7 x8 x9 x10 x11 x12 x13 x14 x15 : Int) (W : World) (KX0 : ∀ u, Calls Tryd.prog 40 #[.agg #[.int .i64 40, .int .i64 x1, .int .i64 x2, .bool x3, .int .i64 x4, .int .i64 x5, .int .i64 x6, .int .i64 x7, .int .i64 x8, .int .i64 x9, .int .i64 x10, .int .i64 x11, .int .i64 x12, .int .i64 x13, .int .i64 x14, .int .i64 x15]] u fun e w' => e = .returned (.string B) ∧ u.grownBy w' none) (KT0 : ∀ u, W.grownBy u none → Calls Tryd.prog 41 #[.string B] u fun e w' => e = .returned (.tuple #[.agg #[.int .i64 40, .int .i64 x1, .int .i64 x2, .bool x3, .int .i64 x4, .int .i64 x5, .int .i64 x6, .int .i64 x7, .int .i64 x8, .int .i64 x9, .int .i64 x10, .int .i64 x11, .int .i64 x12, .int .i64 x13, .int .i64 x14, .int .i64 0], .bool true]) ∧ u.grownBy w' none) :
    Calls Tryd.prog 18 #[.agg #[.int .i64 40, .int .i64 x1, .int .i64 x2, .bool x3, .int .i64 x4, .int .i64 x5, .int .i64 x6, .int .i64 x7, .int .i64 x8, .int .i64 x9, .int .i64 x10, .int .i64 x11, .int .i64 x12, .int .i64 x13, .int .i64 x14, .int .i64 x15]] W fun e w' => e = .returned (.tuple #[.string B, .int .i64 0]) ∧ W.grownBy w' none := by
  have KX := Lib.hid KX0
  have KT := Lib.hid KT0
  clear KX0 KT0
  go_enter Tryd.func18, Tryd.ntmps18
  go_upto_region 3 with fail
  have A0 := blk_at (w := W) (o := .cells #[.int .i64 40, .int .i64 x1, .int .i64 x2, .bool x3, .int .i64 x4, .int .i64 x5, .int .i64 x6, .int .i64 x7, .int .i64 x8, .int .i64 x9, .int .i64 x10, .int .i64 x11, .int .i64 x12, .int .i64 x13, .int .i64 x14, .int .i64 x15] 31)
  have G0 := World.grownBy_alloc W (.cells #[.int .i64 40, .int .i64 x1, .int .i64 x2, .bool x3, .int .i64 x4, .int .i64 x5, .int .i64 x6, .int .i64 x7, .int .i64 x8, .int .i64 x9, .int .i64 x10, .int .i64 x11, .int .i64 x12, .int .i64 x13, .int .i64 x14, .int .i64 x15] 31) none
  generalize W.alloc (.cells #[.int .i64 40, .int .i64 x1, .int .i64 x2, .bool x3, .int .i64 x4, .int .i64 x5, .int .i64 x6, .int .i64 x7, .int .i64 x8, .int .i64 x9, .int .i64 x10, .int .i64 x11, .int .i64 x12, .int .i64 x13, .int .i64 x14, .int .i64 x15] 31) = w0 at A0 G0 ⊢
  have a0 := blk_cell A0 0
  have f0 := blk_free A0 0
  have a1 := blk_cell A0 1
  have f1 := blk_free A0 1
  have a2 := blk_cell A0 2
  have f2 := blk_free A0 2
  have a3 := blk_cell A0 3
  have f3 := blk_free A0 3
  have a4 := blk_cell A0 4
  have f4 := blk_free A0 4
  have a5 := blk_cell A0 5
  have f5 := blk_free A0 5
  have a6 := blk_cell A0 6
  have f6 := blk_free A0 6
  have a7 := blk_cell A0 7
  have f7 := blk_free A0 7
  have a8 := blk_cell A0 8
  have f8 := blk_free A0 8
  have a9 := blk_cell A0 9
  have f9 := blk_free A0 9
  have a10 := blk_cell A0 10
  have f10 := blk_free A0 10
  have a11 := blk_cell A0 11
  have f11 := blk_free A0 11
  have a12 := blk_cell A0 12
  have f12 := blk_free A0 12
  have a13 := blk_cell A0 13
  have f13 := blk_free A0 13
  have a14 := blk_cell A0 14
  have f14 := blk_free A0 14
  have a15 := blk_cell A0 15
  have f15 := blk_free A0 15
  simp only [List.getElem?_toArray, List.getElem?_cons_succ, List.getElem?_cons_zero] at a0 a1 a2 a3 a4 a5 a6 a7 a8 a9 a10 a11 a12 a13 a14 a15
  have l0 := blk_lt A0
  have HA0 := Lib.hid A0
  have HG0 := Lib.hid G0
  clear A0 G0
  go_wp2_with fail
  refine (KX.out _).mono ?_
  rintro e w1 ⟨rfl, g1⟩
  have A1 := old0 g1 HA0.out (blk_lt HA0.out) (by simp)
  have G1 := gb_trans HG0.out g1
  clear g1 HA0 HG0 a0 f0 a1 f1 a2 f2 a3 f3 a4 f4 a5 f5 a6 f6 a7 f7 a8 f8 a9 f9 a10 f10 a11 f11 a12 f12 a13 f13 a14 f14 a15 f15 l0
  have a0 := blk_cell A1 0
  have f0 := blk_free A1 0
  have a1 := blk_cell A1 1
  have f1 := blk_free A1 1
  have a2 := blk_cell A1 2
  have f2 := blk_free A1 2
  have a3 := blk_cell A1 3
  have f3 := blk_free A1 3
  have a4 := blk_cell A1 4
  have f4 := blk_free A1 4
  have a5 := blk_cell A1 5
  have f5 := blk_free A1 5
  have a6 := blk_cell A1 6
  have f6 := blk_free A1 6
  have a7 := blk_cell A1 7
  have f7 := blk_free A1 7
  have a8 := blk_cell A1 8
  have f8 := blk_free A1 8
  have a9 := blk_cell A1 9
  have f9 := blk_free A1 9
  have a10 := blk_cell A1 10
  have f10 := blk_free A1 10
  have a11 := blk_cell A1 11
  have f11 := blk_free A1 11
  have a12 := blk_cell A1 12
  have f12 := blk_free A1 12
  have a13 := blk_cell A1 13
  have f13 := blk_free A1 13
  have a14 := blk_cell A1 14
  have f14 := blk_free A1 14
  have a15 := blk_cell A1 15
  have f15 := blk_free A1 15
  simp only [List.getElem?_toArray, List.getElem?_cons_succ, List.getElem?_cons_zero] at a0 a1 a2 a3 a4 a5 a6 a7 a8 a9 a10 a11 a12 a13 a14 a15
  have l0 := blk_lt A1
  have HA1 := Lib.hid A1
  have HG1 := Lib.hid G1
  clear A1 G1
  go_upto_region 5 with fail
  refine abs_w (R := fun w => w.heap[W.heap.size]? = some (.cells #[.int .i64 40, .int .i64 x1, .int .i64 x2, .bool x3, .int .i64 x4, .int .i64 x5, .int .i64 x6, .int .i64 x7, .int .i64 x8, .int .i64 x9, .int .i64 x10, .int .i64 x11, .int .i64 x12, .int .i64 x13, .int .i64 x14, .int .i64 0] 31 (0, 0)) ∧ W.grownBy w none) ⟨?_, ?_⟩ (fun w2 I2 => ?_)
  · exact blk_set HA1.out 15 (.int .i64 0)
  · exact gb_own HG1.out (Nat.le_refl _) (gb_set _ _ _ _)
  obtain ⟨A2, G2⟩ := I2
  clear HA1 HG1 a0 f0 a1 f1 a2 f2 a3 f3 a4 f4 a5 f5 a6 f6 a7 f7 a8 f8 a9 f9 a10 f10 a11 f11 a12 f12 a13 f13 a14 f14 a15 f15 l0
  have HA2 := Lib.hid A2
  have HG2 := Lib.hid G2
  clear A2 G2
  go_wp2_with fail
  refine (KT.out _ HG2.out).mono ?_
  rintro e w3 ⟨rfl, g3⟩
  have ga := gb_trans g3 (World.grownBy_alloc w3 (.cells #[.int .i64 40, .int .i64 x1, .int .i64 x2, .bool x3, .int .i64 x4, .int .i64 x5, .int .i64 x6, .int .i64 x7, .int .i64 x8, .int .i64 x9, .int .i64 x10, .int .i64 x11, .int .i64 x12, .int .i64 x13, .int .i64 x14, .int .i64 0] 31) none)
  have A4 := old0 ga HA2.out (blk_lt HA2.out) (by simp)
  have G4 := gb_trans HG2.out ga
  have B4 : (w3.alloc (.cells #[.int .i64 40, .int .i64 x1, .int .i64 x2, .bool x3, .int .i64 x4, .int .i64 x5, .int .i64 x6, .int .i64 x7, .int .i64 x8, .int .i64 x9, .int .i64 x10, .int .i64 x11, .int .i64 x12, .int .i64 x13, .int .i64 x14, .int .i64 0] 31)).heap[w3.heap.size]? = some (.cells #[.int .i64 40, .int .i64 x1, .int .i64 x2, .bool x3, .int .i64 x4, .int .i64 x5, .int .i64 x6, .int .i64 x7, .int .i64 x8, .int .i64 x9, .int .i64 x10, .int .i64 x11, .int .i64 x12, .int .i64 x13, .int .i64 x14, .int .i64 0] 31 (0, 0)) := blk_at
  clear g3 ga HA2 HG2
  go_upto_region 6 with fail
  obtain ⟨hb, hhb⟩ : ∃ k, w3.heap.size = k := ⟨_, rfl⟩
  rw [hhb] at B4 ⊢
  generalize w3.alloc (.cells #[.int .i64 40, .int .i64 x1, .int .i64 x2, .bool x3, .int .i64 x4, .int .i64 x5, .int .i64 x6, .int .i64 x7, .int .i64 x8, .int .i64 x9, .int .i64 x10, .int .i64 x11, .int .i64 x12, .int .i64 x13, .int .i64 x14, .int .i64 0] 31) = w4 at A4 B4 G4 ⊢
  clear hhb
  have a0 := blk_cell A4 0
  have a1 := blk_cell A4 1
  have a2 := blk_cell A4 2
  have a3 := blk_cell A4 3
  have a4 := blk_cell A4 4
  have a5 := blk_cell A4 5
  have a6 := blk_cell A4 6
  have a7 := blk_cell A4 7
  have a8 := blk_cell A4 8
  have a9 := blk_cell A4 9
  have a10 := blk_cell A4 10
  have a11 := blk_cell A4 11
  have a12 := blk_cell A4 12
  have a13 := blk_cell A4 13
  have a14 := blk_cell A4 14
  have a15 := blk_cell A4 15
  simp only [List.getElem?_toArray, List.getElem?_cons_succ, List.getElem?_cons_zero] at a0 a1 a2 a3 a4 a5 a6 a7 a8 a9 a10 a11 a12 a13 a14 a15
  have b0 := blk_cell B4 0
  have b1 := blk_cell B4 1
  have b2 := blk_cell B4 2
  have b3 := blk_cell B4 3
  have b4 := blk_cell B4 4
  have b5 := blk_cell B4 5
  have b6 := blk_cell B4 6
  have b7 := blk_cell B4 7
  have b8 := blk_cell B4 8
  have b9 := blk_cell B4 9
  have b10 := blk_cell B4 10
  have b11 := blk_cell B4 11
  have b12 := blk_cell B4 12
  have b13 := blk_cell B4 13
  have b14 := blk_cell B4 14
  have b15 := blk_cell B4 15
  simp only [List.getElem?_toArray, List.getElem?_cons_succ, List.getElem?_cons_zero] at b0 b1 b2 b3 b4 b5 b6 b7 b8 b9 b10 b11 b12 b13 b14 b15
  have HG4 := Lib.hid G4
  clear A4 B4 G4
  go_wp2
  go_ret2
  exact ⟨rfl, HG4.out⟩

end Go.Proofs.YtikjfmpdfeaooaaDoor.Dh

/- Layer 20: Bytes (written by wip/gen/dbb.py). -/
namespace Go.Proofs.YtikjfmpdfeaooaaDoor.Dh
open Go.ChangeShapes Go.WideShapes Go.ChangeAt Go.RowKit
open Go.Proofs.YtikjfmpdfeaooaaDoor.Le Go.Proofs.YtikjfmpdfeaooaaDoor.Sr Go.Proofs.YtikjfmpdfeaooaaDoor.Ma
set_option linter.unusedVariables false

set_option maxRecDepth 100000 in
set_option maxHeartbeats 4000000 in
theorem head_ne (x1 x2 : Int) (x3 : Bool) (x4 x5 x6 x7 x8 x9 x10 x11 x12 x13 x14 : Int) (z0 z1 z2 : Int) (z3 : Bool) (z4 z5 z6 z7 z8 z9 z10 z11 z12 z13 z14 z15 : Int) (h : ¬ (z0 = 40 ∧ z1 = x1 ∧ z2 = x2 ∧ z3 = x3 ∧ z4 = x4 ∧ z5 = x5 ∧ z6 = x6 ∧ z7 = x7 ∧ z8 = x8 ∧ z9 = x9 ∧ z10 = x10 ∧ z11 = x11 ∧ z12 = x12 ∧ z13 = x13 ∧ z14 = x14 ∧ z15 = 0)) (w : World) : (Op.equalIn 10000 31 (.agg #[.int .i64 z0, .int .i64 z1, .int .i64 z2, .bool z3, .int .i64 z4, .int .i64 z5, .int .i64 z6, .int .i64 z7, .int .i64 z8, .int .i64 z9, .int .i64 z10, .int .i64 z11, .int .i64 z12, .int .i64 z13, .int .i64 z14, .int .i64 z15]) (.agg #[.int .i64 40, .int .i64 x1, .int .i64 x2, .bool x3, .int .i64 x4, .int .i64 x5, .int .i64 x6, .int .i64 x7, .int .i64 x8, .int .i64 x9, .int .i64 x10, .int .i64 x11, .int .i64 x12, .int .i64 x13, .int .i64 x14, .int .i64 0])).run Tryd.prog w = .ok false w := by
  by_cases e0 : z0 = 40
  · subst e0
    by_cases e1 : z1 = x1
    · subst e1
      by_cases e2 : z2 = x2
      · subst e2
        by_cases e3 : z3 = x3
        · subst e3
          by_cases e4 : z4 = x4
          · subst e4
            by_cases e5 : z5 = x5
            · subst e5
              by_cases e6 : z6 = x6
              · subst e6
                by_cases e7 : z7 = x7
                · subst e7
                  by_cases e8 : z8 = x8
                  · subst e8
                    by_cases e9 : z9 = x9
                    · subst e9
                      by_cases e10 : z10 = x10
                      · subst e10
                        by_cases e11 : z11 = x11
                        · subst e11
                          by_cases e12 : z12 = x12
                          · subst e12
                            by_cases e13 : z13 = x13
                            · subst e13
                              by_cases e14 : z14 = x14
                              · subst e14
                                by_cases e15 : z15 = 0
                                · subst e15
                                  exact absurd ⟨rfl, rfl, rfl, rfl, rfl, rfl, rfl, rfl, rfl, rfl, rfl, rfl, rfl, rfl, rfl, rfl⟩ h
                                · have d : (z15 == 0) = false := by rw [beq_eq_false_iff_ne]; exact e15
                                  clear h e15
                                  go_simp
                              · have d : (z14 == x14) = false := by rw [beq_eq_false_iff_ne]; exact e14
                                clear h e14
                                go_simp
                            · have d : (z13 == x13) = false := by rw [beq_eq_false_iff_ne]; exact e13
                              clear h e13
                              go_simp
                          · have d : (z12 == x12) = false := by rw [beq_eq_false_iff_ne]; exact e12
                            clear h e12
                            go_simp
                        · have d : (z11 == x11) = false := by rw [beq_eq_false_iff_ne]; exact e11
                          clear h e11
                          go_simp
                      · have d : (z10 == x10) = false := by rw [beq_eq_false_iff_ne]; exact e10
                        clear h e10
                        go_simp
                    · have d : (z9 == x9) = false := by rw [beq_eq_false_iff_ne]; exact e9
                      clear h e9
                      go_simp
                  · have d : (z8 == x8) = false := by rw [beq_eq_false_iff_ne]; exact e8
                    clear h e8
                    go_simp
                · have d : (z7 == x7) = false := by rw [beq_eq_false_iff_ne]; exact e7
                  clear h e7
                  go_simp
              · have d : (z6 == x6) = false := by rw [beq_eq_false_iff_ne]; exact e6
                clear h e6
                go_simp
            · have d : (z5 == x5) = false := by rw [beq_eq_false_iff_ne]; exact e5
              clear h e5
              go_simp
          · have d : (z4 == x4) = false := by rw [beq_eq_false_iff_ne]; exact e4
            clear h e4
            go_simp
        · have d : (z3 == x3) = false := by rw [beq_eq_false_iff_ne]; exact e3
          clear h e3
          go_simp
      · have d : (z2 == x2) = false := by rw [beq_eq_false_iff_ne]; exact e2
        clear h e2
        go_simp
    · have d : (z1 == x1) = false := by rw [beq_eq_false_iff_ne]; exact e1
      clear h e1
      go_simp
  · have d : (z0 == 40) = false := by rw [beq_eq_false_iff_ne]; exact e0
    clear h e0
    go_simp

set_option maxRecDepth 100000 in
set_option maxHeartbeats 4000000 in
theorem bytes_other (B : ByteArray) (x1 x2 : Int) (x3 : Bool) (x4 x5 x6 x7 x8 x9 x10 x11 x12 x13 x14 x15 : Int) (z0 z1 z2 : Int) (z3 : Bool) (z4 z5 z6 z7 z8 z9 z10 z11 z12 z13 z14 z15 : Int) (hne : ¬ (z0 = 40 ∧ z1 = x1 ∧ z2 = x2 ∧ z3 = x3 ∧ z4 = x4 ∧ z5 = x5 ∧ z6 = x6 ∧ z7 = x7 ∧ z8 = x8 ∧ z9 = x9 ∧ z10 = x10 ∧ z11 = x11 ∧ z12 = x12 ∧ z13 = x13 ∧ z14 = x14 ∧ z15 = 0)) (W : World) (KX0 : ∀ u, Calls Tryd.prog 40 #[.agg #[.int .i64 40, .int .i64 x1, .int .i64 x2, .bool x3, .int .i64 x4, .int .i64 x5, .int .i64 x6, .int .i64 x7, .int .i64 x8, .int .i64 x9, .int .i64 x10, .int .i64 x11, .int .i64 x12, .int .i64 x13, .int .i64 x14, .int .i64 x15]] u fun e w' => e = .returned (.string B) ∧ u.grownBy w' none) (KT0 : ∀ u, W.grownBy u none → Calls Tryd.prog 41 #[.string B] u fun e w' => e = .returned (.tuple #[.agg #[.int .i64 z0, .int .i64 z1, .int .i64 z2, .bool z3, .int .i64 z4, .int .i64 z5, .int .i64 z6, .int .i64 z7, .int .i64 z8, .int .i64 z9, .int .i64 z10, .int .i64 z11, .int .i64 z12, .int .i64 z13, .int .i64 z14, .int .i64 z15], .bool true]) ∧ u.grownBy w' none) :
    Calls Tryd.prog 18 #[.agg #[.int .i64 40, .int .i64 x1, .int .i64 x2, .bool x3, .int .i64 x4, .int .i64 x5, .int .i64 x6, .int .i64 x7, .int .i64 x8, .int .i64 x9, .int .i64 x10, .int .i64 x11, .int .i64 x12, .int .i64 x13, .int .i64 x14, .int .i64 x15]] W fun e w' => e = .returned (.tuple #[.string ⟨#[]⟩, .int .i64 6]) ∧ W.grownBy w' none := by
  have KX := Lib.hid KX0
  have KT := Lib.hid KT0
  clear KX0 KT0
  have HE := fun w => head_ne x1 x2 x3 x4 x5 x6 x7 x8 x9 x10 x11 x12 x13 x14 z0 z1 z2 z3 z4 z5 z6 z7 z8 z9 z10 z11 z12 z13 z14 z15 hne w
  clear hne
  go_enter Tryd.func18, Tryd.ntmps18
  go_upto_region 3 with fail
  have A0 := blk_at (w := W) (o := .cells #[.int .i64 40, .int .i64 x1, .int .i64 x2, .bool x3, .int .i64 x4, .int .i64 x5, .int .i64 x6, .int .i64 x7, .int .i64 x8, .int .i64 x9, .int .i64 x10, .int .i64 x11, .int .i64 x12, .int .i64 x13, .int .i64 x14, .int .i64 x15] 31)
  have G0 := World.grownBy_alloc W (.cells #[.int .i64 40, .int .i64 x1, .int .i64 x2, .bool x3, .int .i64 x4, .int .i64 x5, .int .i64 x6, .int .i64 x7, .int .i64 x8, .int .i64 x9, .int .i64 x10, .int .i64 x11, .int .i64 x12, .int .i64 x13, .int .i64 x14, .int .i64 x15] 31) none
  generalize W.alloc (.cells #[.int .i64 40, .int .i64 x1, .int .i64 x2, .bool x3, .int .i64 x4, .int .i64 x5, .int .i64 x6, .int .i64 x7, .int .i64 x8, .int .i64 x9, .int .i64 x10, .int .i64 x11, .int .i64 x12, .int .i64 x13, .int .i64 x14, .int .i64 x15] 31) = w0 at A0 G0 ⊢
  have a0 := blk_cell A0 0
  have f0 := blk_free A0 0
  have a1 := blk_cell A0 1
  have f1 := blk_free A0 1
  have a2 := blk_cell A0 2
  have f2 := blk_free A0 2
  have a3 := blk_cell A0 3
  have f3 := blk_free A0 3
  have a4 := blk_cell A0 4
  have f4 := blk_free A0 4
  have a5 := blk_cell A0 5
  have f5 := blk_free A0 5
  have a6 := blk_cell A0 6
  have f6 := blk_free A0 6
  have a7 := blk_cell A0 7
  have f7 := blk_free A0 7
  have a8 := blk_cell A0 8
  have f8 := blk_free A0 8
  have a9 := blk_cell A0 9
  have f9 := blk_free A0 9
  have a10 := blk_cell A0 10
  have f10 := blk_free A0 10
  have a11 := blk_cell A0 11
  have f11 := blk_free A0 11
  have a12 := blk_cell A0 12
  have f12 := blk_free A0 12
  have a13 := blk_cell A0 13
  have f13 := blk_free A0 13
  have a14 := blk_cell A0 14
  have f14 := blk_free A0 14
  have a15 := blk_cell A0 15
  have f15 := blk_free A0 15
  simp only [List.getElem?_toArray, List.getElem?_cons_succ, List.getElem?_cons_zero] at a0 a1 a2 a3 a4 a5 a6 a7 a8 a9 a10 a11 a12 a13 a14 a15
  have l0 := blk_lt A0
  have HA0 := Lib.hid A0
  have HG0 := Lib.hid G0
  clear A0 G0
  go_wp2_with fail
  refine (KX.out _).mono ?_
  rintro e w1 ⟨rfl, g1⟩
  have A1 := old0 g1 HA0.out (blk_lt HA0.out) (by simp)
  have G1 := gb_trans HG0.out g1
  clear g1 HA0 HG0 a0 f0 a1 f1 a2 f2 a3 f3 a4 f4 a5 f5 a6 f6 a7 f7 a8 f8 a9 f9 a10 f10 a11 f11 a12 f12 a13 f13 a14 f14 a15 f15 l0
  have a0 := blk_cell A1 0
  have f0 := blk_free A1 0
  have a1 := blk_cell A1 1
  have f1 := blk_free A1 1
  have a2 := blk_cell A1 2
  have f2 := blk_free A1 2
  have a3 := blk_cell A1 3
  have f3 := blk_free A1 3
  have a4 := blk_cell A1 4
  have f4 := blk_free A1 4
  have a5 := blk_cell A1 5
  have f5 := blk_free A1 5
  have a6 := blk_cell A1 6
  have f6 := blk_free A1 6
  have a7 := blk_cell A1 7
  have f7 := blk_free A1 7
  have a8 := blk_cell A1 8
  have f8 := blk_free A1 8
  have a9 := blk_cell A1 9
  have f9 := blk_free A1 9
  have a10 := blk_cell A1 10
  have f10 := blk_free A1 10
  have a11 := blk_cell A1 11
  have f11 := blk_free A1 11
  have a12 := blk_cell A1 12
  have f12 := blk_free A1 12
  have a13 := blk_cell A1 13
  have f13 := blk_free A1 13
  have a14 := blk_cell A1 14
  have f14 := blk_free A1 14
  have a15 := blk_cell A1 15
  have f15 := blk_free A1 15
  simp only [List.getElem?_toArray, List.getElem?_cons_succ, List.getElem?_cons_zero] at a0 a1 a2 a3 a4 a5 a6 a7 a8 a9 a10 a11 a12 a13 a14 a15
  have l0 := blk_lt A1
  have HA1 := Lib.hid A1
  have HG1 := Lib.hid G1
  clear A1 G1
  go_upto_region 5 with fail
  refine abs_w (R := fun w => w.heap[W.heap.size]? = some (.cells #[.int .i64 40, .int .i64 x1, .int .i64 x2, .bool x3, .int .i64 x4, .int .i64 x5, .int .i64 x6, .int .i64 x7, .int .i64 x8, .int .i64 x9, .int .i64 x10, .int .i64 x11, .int .i64 x12, .int .i64 x13, .int .i64 x14, .int .i64 0] 31 (0, 0)) ∧ W.grownBy w none) ⟨?_, ?_⟩ (fun w2 I2 => ?_)
  · exact blk_set HA1.out 15 (.int .i64 0)
  · exact gb_own HG1.out (Nat.le_refl _) (gb_set _ _ _ _)
  obtain ⟨A2, G2⟩ := I2
  clear HA1 HG1 a0 f0 a1 f1 a2 f2 a3 f3 a4 f4 a5 f5 a6 f6 a7 f7 a8 f8 a9 f9 a10 f10 a11 f11 a12 f12 a13 f13 a14 f14 a15 f15 l0
  have HA2 := Lib.hid A2
  have HG2 := Lib.hid G2
  clear A2 G2
  go_wp2_with fail
  refine (KT.out _ HG2.out).mono ?_
  rintro e w3 ⟨rfl, g3⟩
  have ga := gb_trans g3 (World.grownBy_alloc w3 (.cells #[.int .i64 z0, .int .i64 z1, .int .i64 z2, .bool z3, .int .i64 z4, .int .i64 z5, .int .i64 z6, .int .i64 z7, .int .i64 z8, .int .i64 z9, .int .i64 z10, .int .i64 z11, .int .i64 z12, .int .i64 z13, .int .i64 z14, .int .i64 z15] 31) none)
  have A4 := old0 ga HA2.out (blk_lt HA2.out) (by simp)
  have G4 := gb_trans HG2.out ga
  have B4 : (w3.alloc (.cells #[.int .i64 z0, .int .i64 z1, .int .i64 z2, .bool z3, .int .i64 z4, .int .i64 z5, .int .i64 z6, .int .i64 z7, .int .i64 z8, .int .i64 z9, .int .i64 z10, .int .i64 z11, .int .i64 z12, .int .i64 z13, .int .i64 z14, .int .i64 z15] 31)).heap[w3.heap.size]? = some (.cells #[.int .i64 z0, .int .i64 z1, .int .i64 z2, .bool z3, .int .i64 z4, .int .i64 z5, .int .i64 z6, .int .i64 z7, .int .i64 z8, .int .i64 z9, .int .i64 z10, .int .i64 z11, .int .i64 z12, .int .i64 z13, .int .i64 z14, .int .i64 z15] 31 (0, 0)) := blk_at
  clear g3 ga HA2 HG2
  go_upto_region 6 with fail
  obtain ⟨hb, hhb⟩ : ∃ k, w3.heap.size = k := ⟨_, rfl⟩
  rw [hhb] at B4 ⊢
  generalize w3.alloc (.cells #[.int .i64 z0, .int .i64 z1, .int .i64 z2, .bool z3, .int .i64 z4, .int .i64 z5, .int .i64 z6, .int .i64 z7, .int .i64 z8, .int .i64 z9, .int .i64 z10, .int .i64 z11, .int .i64 z12, .int .i64 z13, .int .i64 z14, .int .i64 z15] 31) = w4 at A4 B4 G4 ⊢
  clear hhb
  have a0 := blk_cell A4 0
  have a1 := blk_cell A4 1
  have a2 := blk_cell A4 2
  have a3 := blk_cell A4 3
  have a4 := blk_cell A4 4
  have a5 := blk_cell A4 5
  have a6 := blk_cell A4 6
  have a7 := blk_cell A4 7
  have a8 := blk_cell A4 8
  have a9 := blk_cell A4 9
  have a10 := blk_cell A4 10
  have a11 := blk_cell A4 11
  have a12 := blk_cell A4 12
  have a13 := blk_cell A4 13
  have a14 := blk_cell A4 14
  have a15 := blk_cell A4 15
  simp only [List.getElem?_toArray, List.getElem?_cons_succ, List.getElem?_cons_zero] at a0 a1 a2 a3 a4 a5 a6 a7 a8 a9 a10 a11 a12 a13 a14 a15
  have b0 := blk_cell B4 0
  have b1 := blk_cell B4 1
  have b2 := blk_cell B4 2
  have b3 := blk_cell B4 3
  have b4 := blk_cell B4 4
  have b5 := blk_cell B4 5
  have b6 := blk_cell B4 6
  have b7 := blk_cell B4 7
  have b8 := blk_cell B4 8
  have b9 := blk_cell B4 9
  have b10 := blk_cell B4 10
  have b11 := blk_cell B4 11
  have b12 := blk_cell B4 12
  have b13 := blk_cell B4 13
  have b14 := blk_cell B4 14
  have b15 := blk_cell B4 15
  simp only [List.getElem?_toArray, List.getElem?_cons_succ, List.getElem?_cons_zero] at b0 b1 b2 b3 b4 b5 b6 b7 b8 b9 b10 b11 b12 b13 b14 b15
  have HG4 := Lib.hid G4
  clear A4 B4 G4
  go_wp2
  go_ret2
  exact ⟨rfl, HG4.out⟩

end Go.Proofs.YtikjfmpdfeaooaaDoor.Dh
