/- Texts of one kind, one behind the other: Dh8, Di1, Di4s. -/
import Derived.BigRegion
import Derived.Deep.Cut
import Derived.Deep.RegionHeld3
import Derived.Test.YtikjfmpdfeaooaaDoorG06
import Derived.Test.YtikjfmpdfeaooaaDoorG10
import Derived.Test.YtikjfmpdfeaooaaDoorG14
/- Layer 20: Read, where the masks fail, and where all is right (written by wip/gen/dh8.py). -/
namespace Go.Proofs.YtikjfmpdfeaooaaDoor.Dh
open Go.ChangeShapes Go.WideShapes Go.ChangeAt Go.RowKit
open Go.Proofs.YtikjfmpdfeaooaaDoor.Le Go.Proofs.YtikjfmpdfeaooaaDoor.Sr Go.Proofs.YtikjfmpdfeaooaaDoor.Ma
set_option linter.unusedVariables false

set_option maxRecDepth 100000 in
set_option maxHeartbeats 8000000 in
theorem read_nomasks (b l : Nat) (s : ByteArray) (p f t : Nat) (fm : Int) (x : St) (W : World) (h : SL b l s p f t x W) (z : ByteArray) (S X Y P D M C : Int) (kk a0 : Int) (hk : kk ≠ 0) (q qq : Nat) (y yy : St) (KH0 : ∀ u, SL b l s p f t x u → Calls Tryd.prog 21 #[.agg #[.pointer (some ⟨b, 0, none⟩), .int .i64 fm, .int .i64 (p : Nat)]] u fun e w' => e = .returned (.tuple #[.string z, flV 0 0 0]) ∧ SL b l s q f t y w' ∧ Tn u w' [b, l]) (KN0 : ∀ u, Calls Tryd.prog 22 #[.string z] u fun e w' => e = .returned (.agg #[.int .i64 S, .int .i64 X, .int .i64 Y, .int .i64 P, .int .i64 D, .int .i64 M, .int .i64 C]) ∧ u.grownBy w' none) (KW0 : ∀ u, Calls Tryd.prog 23 #[.agg #[.int .i64 S, .int .i64 X, .int .i64 Y, .int .i64 P, .int .i64 D, .int .i64 M, .int .i64 C]] u fun e w' => e = .returned (.tuple #[.int .i64 0, .int .i64 0]) ∧ u.grownBy w' none) (KM0 : ∀ u, SL b l s q f t y u → Tn W u [b, l] → Calls Tryd.prog 25 #[.agg #[.pointer (some ⟨b, 0, none⟩), .int .i64 fm, .int .i64 (p : Nat)], .string z, .agg #[.int .i64 S, .int .i64 X, .int .i64 Y, .int .i64 P, .int .i64 D, .int .i64 M, .int .i64 C]] u fun e w' => e = .returned (.tuple #[.agg #[.int .i64 0, .int .i64 0, .int .i64 0, .int .i64 0, .int .i64 0, .int .i64 0, .int .i64 0, .int .i64 0], flV kk fm a0]) ∧ SL b l s qq f t yy w' ∧ Tn u w' [b, l]) :
    Calls Tryd.prog 10 #[.pointer (some ⟨b, 0, none⟩), .int .i64 fm] W
      fun e w' => e = .returned (.tuple #[.agg #[.int .i64 0, .int .i64 0, .int .i64 0, .bool false, .int .i64 0, .int .i64 0, .int .i64 0, .int .i64 0, .int .i64 0, .int .i64 0, .int .i64 0, .int .i64 0, .int .i64 0, .int .i64 0, .int .i64 0, .int .i64 0], flV kk fm a0]) ∧ SL b l s qq f t yy w' ∧ Tn W w' [b, l] := by
  have hk0 : (kk != 0) = true := by rw [bne_iff_ne]; exact hk
  unfold flV at KH0 KM0 ⊢
  clear hk
  have hblt := h.so.lt
  have hllt := h.led.lt
  have KA := Lib.hid (fun u (hu : SL b l s p f t x u) => at_calls b l s p f t u hu.so)
  have HS := Lib.hid (fun u (g : W.grownBy u none) => h.grown g)
  have KH := Lib.hid KH0
  clear h KH0
  have KN := Lib.hid KN0
  have KW := Lib.hid KW0
  have KM := Lib.hid KM0
  clear KN0 KW0 KM0
  go_enter Tryd.func10, Tryd.ntmps10
  go_wp2_with fail
  have g00 := gb_trans (World.grownBy_alloc W (.cells #[.int .i64 0, .int .i64 0, .int .i64 0, .bool false, .int .i64 0, .int .i64 0, .int .i64 0, .int .i64 0, .int .i64 0, .int .i64 0, .int .i64 0, .int .i64 0, .int .i64 0, .int .i64 0, .int .i64 0, .int .i64 0] 31) none) (World.grownBy_alloc (W.alloc (.cells #[.int .i64 0, .int .i64 0, .int .i64 0, .bool false, .int .i64 0, .int .i64 0, .int .i64 0, .int .i64 0, .int .i64 0, .int .i64 0, .int .i64 0, .int .i64 0, .int .i64 0, .int .i64 0, .int .i64 0, .int .i64 0] 31)) (.cells #[.int .i64 0, .int .i64 0, .int .i64 0] 33) none)
  refine (KA.out _ (HS.out _ g00)).mono ?_
  rintro e w' ⟨rfl, rfl⟩
  go_upto_region 2 with fail
  have I0 : RI W b l fm p _ := RI.new
  have HS0 := Lib.hid (HS.out _ (gb_trans g00 (World.grownBy_alloc _ (.cells #[.pointer (some ⟨b, 0, none⟩), .int .i64 fm, .int .i64 (p : Nat)] 58) none)))
  generalize (((W.alloc (.cells #[.int .i64 0, .int .i64 0, .int .i64 0, .bool false, .int .i64 0, .int .i64 0, .int .i64 0, .int .i64 0, .int .i64 0, .int .i64 0, .int .i64 0, .int .i64 0, .int .i64 0, .int .i64 0, .int .i64 0, .int .i64 0] 31)).alloc (.cells #[.int .i64 0, .int .i64 0, .int .i64 0] 33)).alloc (.cells #[.pointer (some ⟨b, 0, none⟩), .int .i64 fm, .int .i64 (p : Nat)] 58)) = w0 at I0 HS0 ⊢
  clear HS g00 KA
  have h0 := blk_cell I0.h 0
  have h1 := blk_cell I0.h 1
  have h2 := blk_cell I0.h 2
  have h3 := blk_cell I0.h 3
  have h4 := blk_cell I0.h 4
  have h5 := blk_cell I0.h 5
  have h6 := blk_cell I0.h 6
  have h7 := blk_cell I0.h 7
  have h8 := blk_cell I0.h 8
  have h9 := blk_cell I0.h 9
  have h10 := blk_cell I0.h 10
  have h11 := blk_cell I0.h 11
  have h12 := blk_cell I0.h 12
  have h13 := blk_cell I0.h 13
  have h14 := blk_cell I0.h 14
  have h15 := blk_cell I0.h 15
  have q0 := blk_free I0.h 0
  have q1 := blk_free I0.h 1
  have q2 := blk_free I0.h 2
  have q3 := blk_free I0.h 3
  have q4 := blk_free I0.h 4
  have q5 := blk_free I0.h 5
  have q6 := blk_free I0.h 6
  have q7 := blk_free I0.h 7
  have q8 := blk_free I0.h 8
  have q9 := blk_free I0.h 9
  have q10 := blk_free I0.h 10
  have q11 := blk_free I0.h 11
  have q12 := blk_free I0.h 12
  have q13 := blk_free I0.h 13
  have q14 := blk_free I0.h 14
  have q15 := blk_free I0.h 15
  simp only [List.getElem?_toArray, List.getElem?_cons_succ, List.getElem?_cons_zero] at h0 h1 h2 h3 h4 h5 h6 h7 h8 h9 h10 h11 h12 h13 h14 h15
  have d0 := blk_cell I0.f 0
  have d1 := blk_cell I0.f 1
  have d2 := blk_cell I0.f 2
  have e0 := blk_free I0.f 0
  have e1 := blk_free I0.f 1
  have e2 := blk_free I0.f 2
  simp only [List.getElem?_toArray, List.getElem?_cons_succ, List.getElem?_cons_zero] at d0 d1 d2
  have c0 := blk_cell I0.r 0
  have c1 := blk_cell I0.r 1
  have c2 := blk_cell I0.r 2
  simp only [List.getElem?_toArray, List.getElem?_cons_succ, List.getElem?_cons_zero] at c0 c1 c2
  have l0 := blk_lt I0.h
  have l1 := blk_lt I0.f
  have l2 := blk_lt I0.r
  have HI0 := Lib.hid I0
  clear I0
  go_wp2_with fail
  refine (KH.out _ HS0.out).mono ?_
  rintro e w1 ⟨rfl, S1, t1⟩
  have FV : (w1.alloc (.cells #[.int .i64 0, .int .i64 0, .int .i64 0] 33)).heap[w1.heap.size]? = some (.cells #[.int .i64 0, .int .i64 0, .int .i64 0] 33 (0, 0)) := blk_at
  have I1 := (HI0.out.turned hblt hllt t1).gb hblt hllt (World.grownBy_alloc w1 (.cells #[.int .i64 0, .int .i64 0, .int .i64 0] 33) none)
  have HS1 := Lib.hid (S1.grown (World.grownBy_alloc w1 (.cells #[.int .i64 0, .int .i64 0, .int .i64 0] 33) none))
  have hz := blk_lt (HI0.out.turned hblt hllt t1).r
  clear S1 t1 HI0 HS0
  clear h0 h1 h2 h3 h4 h5 h6 h7 h8 h9 h10 h11 h12 h13 h14 h15 q0 q1 q2 q3 q4 q5 q6 q7 q8 q9 q10 q11 q12 q13 q14 q15 d0 d1 d2 e0 e1 e2 c0 c1 c2 l0 l1 l2
  go_upto_region 3 with fail
  obtain ⟨fb, hfb⟩ : ∃ k, w1.heap.size = k := ⟨_, rfl⟩
  rw [hfb] at FV hz ⊢
  generalize w1.alloc (.cells #[.int .i64 0, .int .i64 0, .int .i64 0] 33) = w2 at FV I1 HS1 ⊢
  clear hfb
  have h0 := blk_cell I1.h 0
  have h1 := blk_cell I1.h 1
  have h2 := blk_cell I1.h 2
  have h3 := blk_cell I1.h 3
  have h4 := blk_cell I1.h 4
  have h5 := blk_cell I1.h 5
  have h6 := blk_cell I1.h 6
  have h7 := blk_cell I1.h 7
  have h8 := blk_cell I1.h 8
  have h9 := blk_cell I1.h 9
  have h10 := blk_cell I1.h 10
  have h11 := blk_cell I1.h 11
  have h12 := blk_cell I1.h 12
  have h13 := blk_cell I1.h 13
  have h14 := blk_cell I1.h 14
  have h15 := blk_cell I1.h 15
  have q0 := blk_free I1.h 0
  have q1 := blk_free I1.h 1
  have q2 := blk_free I1.h 2
  have q3 := blk_free I1.h 3
  have q4 := blk_free I1.h 4
  have q5 := blk_free I1.h 5
  have q6 := blk_free I1.h 6
  have q7 := blk_free I1.h 7
  have q8 := blk_free I1.h 8
  have q9 := blk_free I1.h 9
  have q10 := blk_free I1.h 10
  have q11 := blk_free I1.h 11
  have q12 := blk_free I1.h 12
  have q13 := blk_free I1.h 13
  have q14 := blk_free I1.h 14
  have q15 := blk_free I1.h 15
  simp only [List.getElem?_toArray, List.getElem?_cons_succ, List.getElem?_cons_zero] at h0 h1 h2 h3 h4 h5 h6 h7 h8 h9 h10 h11 h12 h13 h14 h15
  have d0 := blk_cell I1.f 0
  have d1 := blk_cell I1.f 1
  have d2 := blk_cell I1.f 2
  have e0 := blk_free I1.f 0
  have e1 := blk_free I1.f 1
  have e2 := blk_free I1.f 2
  simp only [List.getElem?_toArray, List.getElem?_cons_succ, List.getElem?_cons_zero] at d0 d1 d2
  have c0 := blk_cell I1.r 0
  have c1 := blk_cell I1.r 1
  have c2 := blk_cell I1.r 2
  simp only [List.getElem?_toArray, List.getElem?_cons_succ, List.getElem?_cons_zero] at c0 c1 c2
  have l0 := blk_lt I1.h
  have l1 := blk_lt I1.f
  have l2 := blk_lt I1.r
  have HI1 := Lib.hid I1
  clear I1
  have k0 := blk_cell FV 0
  have k1 := blk_cell FV 1
  have k2 := blk_cell FV 2
  simp only [List.getElem?_toArray, List.getElem?_cons_succ, List.getElem?_cons_zero] at k0 k1 k2
  have m4 := blk_lt FV
  have HFV := Lib.hid FV
  clear FV
  go_wp2_with fail
  refine (KN.out _).mono ?_
  rintro e w3 ⟨rfl, g3⟩
  have F3 := blk_tn HFV.out (by omega) (by omega) (Tn.gb (S := [b, l]) g3 (by simp))
  have I3 := (HI1.out.gb hblt hllt g3).gb hblt hllt (World.grownBy_alloc w3 (.cells #[.int .i64 S, .int .i64 X, .int .i64 Y, .int .i64 P, .int .i64 D, .int .i64 M, .int .i64 C] 62) none)
  have HS3 := Lib.hid ((HS1.out.grown g3).grown (World.grownBy_alloc w3 (.cells #[.int .i64 S, .int .i64 X, .int .i64 Y, .int .i64 P, .int .i64 D, .int .i64 M, .int .i64 C] 62) none))
  have hz3 := blk_lt F3
  have N3 : (w3.alloc (.cells #[.int .i64 S, .int .i64 X, .int .i64 Y, .int .i64 P, .int .i64 D, .int .i64 M, .int .i64 C] 62)).heap[w3.heap.size]? = some (.cells #[.int .i64 S, .int .i64 X, .int .i64 Y, .int .i64 P, .int .i64 D, .int .i64 M, .int .i64 C] 62 (0, 0)) := blk_at
  replace F3 := blk_al F3 (.cells #[.int .i64 S, .int .i64 X, .int .i64 Y, .int .i64 P, .int .i64 D, .int .i64 M, .int .i64 C] 62)
  clear g3 HI1 HS1 HFV k0 k1 k2 m4
  clear h0 h1 h2 h3 h4 h5 h6 h7 h8 h9 h10 h11 h12 h13 h14 h15 q0 q1 q2 q3 q4 q5 q6 q7 q8 q9 q10 q11 q12 q13 q14 q15 d0 d1 d2 e0 e1 e2 c0 c1 c2 l0 l1 l2
  go_upto_region 6 with fail
  obtain ⟨nb, hnb⟩ : ∃ k, w3.heap.size = k := ⟨_, rfl⟩
  rw [hnb] at N3 hz3 ⊢
  generalize w3.alloc (.cells #[.int .i64 S, .int .i64 X, .int .i64 Y, .int .i64 P, .int .i64 D, .int .i64 M, .int .i64 C] 62) = w4 at F3 N3 I3 HS3 ⊢
  clear hnb
  have h0 := blk_cell I3.h 0
  have h1 := blk_cell I3.h 1
  have h2 := blk_cell I3.h 2
  have h3 := blk_cell I3.h 3
  have h4 := blk_cell I3.h 4
  have h5 := blk_cell I3.h 5
  have h6 := blk_cell I3.h 6
  have h7 := blk_cell I3.h 7
  have h8 := blk_cell I3.h 8
  have h9 := blk_cell I3.h 9
  have h10 := blk_cell I3.h 10
  have h11 := blk_cell I3.h 11
  have h12 := blk_cell I3.h 12
  have h13 := blk_cell I3.h 13
  have h14 := blk_cell I3.h 14
  have h15 := blk_cell I3.h 15
  have q0 := blk_free I3.h 0
  have q1 := blk_free I3.h 1
  have q2 := blk_free I3.h 2
  have q3 := blk_free I3.h 3
  have q4 := blk_free I3.h 4
  have q5 := blk_free I3.h 5
  have q6 := blk_free I3.h 6
  have q7 := blk_free I3.h 7
  have q8 := blk_free I3.h 8
  have q9 := blk_free I3.h 9
  have q10 := blk_free I3.h 10
  have q11 := blk_free I3.h 11
  have q12 := blk_free I3.h 12
  have q13 := blk_free I3.h 13
  have q14 := blk_free I3.h 14
  have q15 := blk_free I3.h 15
  simp only [List.getElem?_toArray, List.getElem?_cons_succ, List.getElem?_cons_zero] at h0 h1 h2 h3 h4 h5 h6 h7 h8 h9 h10 h11 h12 h13 h14 h15
  have d0 := blk_cell I3.f 0
  have d1 := blk_cell I3.f 1
  have d2 := blk_cell I3.f 2
  have e0 := blk_free I3.f 0
  have e1 := blk_free I3.f 1
  have e2 := blk_free I3.f 2
  simp only [List.getElem?_toArray, List.getElem?_cons_succ, List.getElem?_cons_zero] at d0 d1 d2
  have c0 := blk_cell I3.r 0
  have c1 := blk_cell I3.r 1
  have c2 := blk_cell I3.r 2
  simp only [List.getElem?_toArray, List.getElem?_cons_succ, List.getElem?_cons_zero] at c0 c1 c2
  have l0 := blk_lt I3.h
  have l1 := blk_lt I3.f
  have l2 := blk_lt I3.r
  have HI3 := Lib.hid I3
  clear I3
  have k0 := blk_cell F3 0
  have k1 := blk_cell F3 1
  have k2 := blk_cell F3 2
  simp only [List.getElem?_toArray, List.getElem?_cons_succ, List.getElem?_cons_zero] at k0 k1 k2
  have n0 := blk_cell N3 0
  have n1 := blk_cell N3 1
  have n2 := blk_cell N3 2
  have n3 := blk_cell N3 3
  have n4 := blk_cell N3 4
  have n5 := blk_cell N3 5
  have n6 := blk_cell N3 6
  simp only [List.getElem?_toArray, List.getElem?_cons_succ, List.getElem?_cons_zero] at n0 n1 n2 n3 n4 n5 n6
  have m4 := blk_lt F3
  have m5 := blk_lt N3
  have HF3 := Lib.hid F3
  have HN3 := Lib.hid N3
  clear F3 N3
  go_wp2_with fail
  refine (KW.out _).mono ?_
  rintro e w5 ⟨rfl, g5⟩
  have F5 := blk_tn HF3.out (by omega) (by omega) (Tn.gb (S := [b, l]) g5 (by simp))
  have N5 := blk_tn HN3.out (by omega) (by omega) (Tn.gb (S := [b, l]) g5 (by simp))
  have I5 := HI3.out.gb hblt hllt g5
  have HS5 := Lib.hid (HS3.out.grown g5)
  clear g5 HI3 HS3 HF3 HN3 k0 k1 k2 m4 m5 n0 n1 n2 n3 n4 n5 n6
  clear h0 h1 h2 h3 h4 h5 h6 h7 h8 h9 h10 h11 h12 h13 h14 h15 q0 q1 q2 q3 q4 q5 q6 q7 q8 q9 q10 q11 q12 q13 q14 q15 d0 d1 d2 e0 e1 e2 c0 c1 c2 l0 l1 l2
  have h0 := blk_cell I5.h 0
  have h1 := blk_cell I5.h 1
  have h2 := blk_cell I5.h 2
  have h3 := blk_cell I5.h 3
  have h4 := blk_cell I5.h 4
  have h5 := blk_cell I5.h 5
  have h6 := blk_cell I5.h 6
  have h7 := blk_cell I5.h 7
  have h8 := blk_cell I5.h 8
  have h9 := blk_cell I5.h 9
  have h10 := blk_cell I5.h 10
  have h11 := blk_cell I5.h 11
  have h12 := blk_cell I5.h 12
  have h13 := blk_cell I5.h 13
  have h14 := blk_cell I5.h 14
  have h15 := blk_cell I5.h 15
  have q0 := blk_free I5.h 0
  have q1 := blk_free I5.h 1
  have q2 := blk_free I5.h 2
  have q3 := blk_free I5.h 3
  have q4 := blk_free I5.h 4
  have q5 := blk_free I5.h 5
  have q6 := blk_free I5.h 6
  have q7 := blk_free I5.h 7
  have q8 := blk_free I5.h 8
  have q9 := blk_free I5.h 9
  have q10 := blk_free I5.h 10
  have q11 := blk_free I5.h 11
  have q12 := blk_free I5.h 12
  have q13 := blk_free I5.h 13
  have q14 := blk_free I5.h 14
  have q15 := blk_free I5.h 15
  simp only [List.getElem?_toArray, List.getElem?_cons_succ, List.getElem?_cons_zero] at h0 h1 h2 h3 h4 h5 h6 h7 h8 h9 h10 h11 h12 h13 h14 h15
  have d0 := blk_cell I5.f 0
  have d1 := blk_cell I5.f 1
  have d2 := blk_cell I5.f 2
  have e0 := blk_free I5.f 0
  have e1 := blk_free I5.f 1
  have e2 := blk_free I5.f 2
  simp only [List.getElem?_toArray, List.getElem?_cons_succ, List.getElem?_cons_zero] at d0 d1 d2
  have c0 := blk_cell I5.r 0
  have c1 := blk_cell I5.r 1
  have c2 := blk_cell I5.r 2
  simp only [List.getElem?_toArray, List.getElem?_cons_succ, List.getElem?_cons_zero] at c0 c1 c2
  have l0 := blk_lt I5.h
  have l1 := blk_lt I5.f
  have l2 := blk_lt I5.r
  have HI5 := Lib.hid I5
  clear I5
  have k0 := blk_cell F5 0
  have k1 := blk_cell F5 1
  have k2 := blk_cell F5 2
  have g0 := blk_free F5 0
  have g1 := blk_free F5 1
  have g2 := blk_free F5 2
  simp only [List.getElem?_toArray, List.getElem?_cons_succ, List.getElem?_cons_zero] at k0 k1 k2
  have n0 := blk_cell N5 0
  have n1 := blk_cell N5 1
  have n2 := blk_cell N5 2
  have n3 := blk_cell N5 3
  have n4 := blk_cell N5 4
  have n5 := blk_cell N5 5
  have n6 := blk_cell N5 6
  simp only [List.getElem?_toArray, List.getElem?_cons_succ, List.getElem?_cons_zero] at n0 n1 n2 n3 n4 n5 n6
  have m4 := blk_lt F5
  have m5 := blk_lt N5
  have HF5 := Lib.hid F5
  have HN5 := Lib.hid N5
  clear F5 N5
  go_wp2_with fail
  refine (KM.out _ HS5.out HI5.out.t).mono ?_
  rintro e w7 ⟨rfl, S7, t7⟩
  have I7 := (HI5.out.turned hblt hllt t7).gb hblt hllt (World.grownBy_alloc w7 (.cells #[.int .i64 0, .int .i64 0, .int .i64 0, .int .i64 0, .int .i64 0, .int .i64 0, .int .i64 0, .int .i64 0] 29) none)
  have N7 := blk_al (blk_tn HN5.out (by omega) (by omega) t7) (.cells #[.int .i64 0, .int .i64 0, .int .i64 0, .int .i64 0, .int .i64 0, .int .i64 0, .int .i64 0, .int .i64 0] 29)
  have F7 := blk_al (blk_tn HF5.out (by omega) (by omega) t7) (.cells #[.int .i64 0, .int .i64 0, .int .i64 0, .int .i64 0, .int .i64 0, .int .i64 0, .int .i64 0, .int .i64 0] 29)
  have hz7 := blk_lt (blk_tn HN5.out (by omega) (by omega) t7)
  have HS7 := Lib.hid (S7.grown (World.grownBy_alloc w7 (.cells #[.int .i64 0, .int .i64 0, .int .i64 0, .int .i64 0, .int .i64 0, .int .i64 0, .int .i64 0, .int .i64 0] 29) none))
  have A7 : (w7.alloc (.cells #[.int .i64 0, .int .i64 0, .int .i64 0, .int .i64 0, .int .i64 0, .int .i64 0, .int .i64 0, .int .i64 0] 29)).heap[w7.heap.size]? = some (.cells #[.int .i64 0, .int .i64 0, .int .i64 0, .int .i64 0, .int .i64 0, .int .i64 0, .int .i64 0, .int .i64 0] 29 (0, 0)) := blk_at
  clear HI5 HS5 HN5 HF5 S7 t7 k0 k1 k2 g0 g1 g2 n0 n1 n2 n3 n4 n5 n6 m4 m5
  clear h0 h1 h2 h3 h4 h5 h6 h7 h8 h9 h10 h11 h12 h13 h14 h15 q0 q1 q2 q3 q4 q5 q6 q7 q8 q9 q10 q11 q12 q13 q14 q15 d0 d1 d2 e0 e1 e2 c0 c1 c2 l0 l1 l2
  have f0 := blk_cell F7 0
  have f1 := blk_cell F7 1
  have f2 := blk_cell F7 2
  have j0 := blk_free F7 0
  have j1 := blk_free F7 1
  have j2 := blk_free F7 2
  have j3 := blk_lt F7
  have hfn : fb < nb := hz3
  go_upto_region 10 with fail
  obtain ⟨sb, hsb⟩ : ∃ k, w7.heap.size = k := ⟨_, rfl⟩
  rw [hsb] at A7 hz7 ⊢
  generalize w7.alloc (.cells #[.int .i64 0, .int .i64 0, .int .i64 0, .int .i64 0, .int .i64 0, .int .i64 0, .int .i64 0, .int .i64 0] 29) = w8 at A7 F7 N7 I7 HS7 f0 f1 f2 j0 j1 j2 j3 ⊢
  clear hsb
  have F8 : (((w8.setCell ⟨fb, 0, none⟩ (.int .i64 kk)).setCell ⟨fb, 1, none⟩ (.int .i64 fm)).setCell ⟨fb, 2, none⟩ (.int .i64 a0)).heap[fb]? = some (.cells #[.int .i64 kk, .int .i64 fm, .int .i64 a0] 33 (0, 0)) := blk_set (blk_set (blk_set F7 0 _) 1 _) 2 _
  have I8 := ((I7.st (k := fb) (i := 0) (v := .int .i64 kk) (by omega)).st (k := fb) (i := 1) (v := .int .i64 fm) (by omega)).st (k := fb) (i := 2) (v := .int .i64 a0) (by omega)
  have N8 := blk_other (c := fb) (o := 2) (v := .int .i64 a0) (blk_other (c := fb) (o := 1) (v := .int .i64 fm) (blk_other (c := fb) (o := 0) (v := .int .i64 kk) N7 (by omega)) (by omega)) (by omega)
  have A8 := blk_other (c := fb) (o := 2) (v := .int .i64 a0) (blk_other (c := fb) (o := 1) (v := .int .i64 fm) (blk_other (c := fb) (o := 0) (v := .int .i64 kk) A7 (by omega)) (by omega)) (by omega)
  have HS8 := Lib.hid (((HS7.out.st (k := fb) (i := 0) (v := .int .i64 kk) (by omega) (by omega)).st (k := fb) (i := 1) (v := .int .i64 fm) (by omega) (by omega)).st (k := fb) (i := 2) (v := .int .i64 a0) (by omega) (by omega))
  clear F7 N7 A7 I7 HS7 f0 f1 f2 j0 j1 j2 j3
  generalize (((w8.setCell ⟨fb, 0, none⟩ (.int .i64 kk)).setCell ⟨fb, 1, none⟩ (.int .i64 fm)).setCell ⟨fb, 2, none⟩ (.int .i64 a0)) = w9 at F8 I8 N8 A8 HS8 ⊢
  have h0 := blk_cell I8.h 0
  have h1 := blk_cell I8.h 1
  have h2 := blk_cell I8.h 2
  have h3 := blk_cell I8.h 3
  have h4 := blk_cell I8.h 4
  have h5 := blk_cell I8.h 5
  have h6 := blk_cell I8.h 6
  have h7 := blk_cell I8.h 7
  have h8 := blk_cell I8.h 8
  have h9 := blk_cell I8.h 9
  have h10 := blk_cell I8.h 10
  have h11 := blk_cell I8.h 11
  have h12 := blk_cell I8.h 12
  have h13 := blk_cell I8.h 13
  have h14 := blk_cell I8.h 14
  have h15 := blk_cell I8.h 15
  have q0 := blk_free I8.h 0
  have q1 := blk_free I8.h 1
  have q2 := blk_free I8.h 2
  have q3 := blk_free I8.h 3
  have q4 := blk_free I8.h 4
  have q5 := blk_free I8.h 5
  have q6 := blk_free I8.h 6
  have q7 := blk_free I8.h 7
  have q8 := blk_free I8.h 8
  have q9 := blk_free I8.h 9
  have q10 := blk_free I8.h 10
  have q11 := blk_free I8.h 11
  have q12 := blk_free I8.h 12
  have q13 := blk_free I8.h 13
  have q14 := blk_free I8.h 14
  have q15 := blk_free I8.h 15
  simp only [List.getElem?_toArray, List.getElem?_cons_succ, List.getElem?_cons_zero] at h0 h1 h2 h3 h4 h5 h6 h7 h8 h9 h10 h11 h12 h13 h14 h15
  have d0 := blk_cell I8.f 0
  have d1 := blk_cell I8.f 1
  have d2 := blk_cell I8.f 2
  have e0 := blk_free I8.f 0
  have e1 := blk_free I8.f 1
  have e2 := blk_free I8.f 2
  simp only [List.getElem?_toArray, List.getElem?_cons_succ, List.getElem?_cons_zero] at d0 d1 d2
  have c0 := blk_cell I8.r 0
  have c1 := blk_cell I8.r 1
  have c2 := blk_cell I8.r 2
  simp only [List.getElem?_toArray, List.getElem?_cons_succ, List.getElem?_cons_zero] at c0 c1 c2
  have l0 := blk_lt I8.h
  have l1 := blk_lt I8.f
  have l2 := blk_lt I8.r
  have HI8 := Lib.hid I8
  clear I8
  have f0 := blk_cell F8 0
  have f1 := blk_cell F8 1
  have f2 := blk_cell F8 2
  simp only [List.getElem?_toArray, List.getElem?_cons_succ, List.getElem?_cons_zero] at f0 f1 f2
  have n0 := blk_cell N8 0
  have n1 := blk_cell N8 1
  have n2 := blk_cell N8 2
  have n3 := blk_cell N8 3
  have n4 := blk_cell N8 4
  have n5 := blk_cell N8 5
  have n6 := blk_cell N8 6
  simp only [List.getElem?_toArray, List.getElem?_cons_succ, List.getElem?_cons_zero] at n0 n1 n2 n3 n4 n5 n6
  have sv0 := blk_cell A8 0
  have sv1 := blk_cell A8 1
  have sv2 := blk_cell A8 2
  have sv3 := blk_cell A8 3
  have sv4 := blk_cell A8 4
  have sv5 := blk_cell A8 5
  have sv6 := blk_cell A8 6
  have sv7 := blk_cell A8 7
  simp only [List.getElem?_toArray, List.getElem?_cons_succ, List.getElem?_cons_zero] at sv0 sv1 sv2 sv3 sv4 sv5 sv6 sv7
  have m4 := blk_lt F8
  have m5 := blk_lt N8
  have m6 := blk_lt A8
  have HF8 := Lib.hid F8
  have HN8 := Lib.hid N8
  have HA8 := Lib.hid A8
  clear F8 N8 A8
  have z0 : ¬ fb = W.heap.size := by omega
  have z1 : ¬ fb = W.heap.size + 1 := by omega
  have z2 : ¬ W.heap.size = fb := by omega
  have z3 : ¬ W.heap.size + 1 = fb := by omega
  go_wp2_with fail
  go_region
  go_wp2
  refine bodyPost_ret (v := .tuple #[.agg #[.int .i64 0, .int .i64 0, .int .i64 0, .bool false, .int .i64 0, .int .i64 0, .int .i64 0, .int .i64 0, .int .i64 0, .int .i64 0, .int .i64 0, .int .i64 0, .int .i64 0, .int .i64 0, .int .i64 0, .int .i64 0], .agg #[.int .i64 kk, .int .i64 fm, .int .i64 a0]]) (by simp only [results, Tryd.results10]; go_simp) rfl ⟨rfl, ?_, ?_⟩
  · repeat' first | with_reducible exact HS8.out | with_reducible refine SL.st ?_ (by omega) (by omega) | with_reducible refine SL.grown ?_ (gb_drew _ _)
  · repeat' first | with_reducible exact HI8.out.t | with_reducible refine tn_own1 ?_ (by omega) | with_reducible refine Tn.dr ?_

theorem set16 {w : World} {k : Nat} {ty : TypeId} {a0 a1 a2 a3 a4 a5 a6 a7 a8 a9 a10 a11 a12 a13 a14 a15 : Value} (h : w.heap[k]? = some (.cells #[a0, a1, a2, a3, a4, a5, a6, a7, a8, a9, a10, a11, a12, a13, a14, a15] ty (0, 0))) (c0 c1 c2 c3 c4 c5 c6 c7 c8 c9 c10 c11 c12 c13 c14 c15 : Value) :
    ((((((((((((((((w.setCell ⟨k, 0, none⟩ c0).setCell ⟨k, 1, none⟩ c1).setCell ⟨k, 2, none⟩ c2).setCell ⟨k, 3, none⟩ c3).setCell ⟨k, 4, none⟩ c4).setCell ⟨k, 5, none⟩ c5).setCell ⟨k, 6, none⟩ c6).setCell ⟨k, 7, none⟩ c7).setCell ⟨k, 8, none⟩ c8).setCell ⟨k, 9, none⟩ c9).setCell ⟨k, 10, none⟩ c10).setCell ⟨k, 11, none⟩ c11).setCell ⟨k, 12, none⟩ c12).setCell ⟨k, 13, none⟩ c13).setCell ⟨k, 14, none⟩ c14).setCell ⟨k, 15, none⟩ c15).heap[k]? = some (.cells #[c0, c1, c2, c3, c4, c5, c6, c7, c8, c9, c10, c11, c12, c13, c14, c15] ty (0, 0)) := by
    have s0 : (w.setCell ⟨k, 0, none⟩ c0).heap[k]? = some (.cells #[c0, a1, a2, a3, a4, a5, a6, a7, a8, a9, a10, a11, a12, a13, a14, a15] ty (0, 0)) := by
      have q := blk_set h 0 c0
      exact q
    have s1 : ((w.setCell ⟨k, 0, none⟩ c0).setCell ⟨k, 1, none⟩ c1).heap[k]? = some (.cells #[c0, c1, a2, a3, a4, a5, a6, a7, a8, a9, a10, a11, a12, a13, a14, a15] ty (0, 0)) := by
      have q := blk_set s0 1 c1
      exact q
    have s2 : (((w.setCell ⟨k, 0, none⟩ c0).setCell ⟨k, 1, none⟩ c1).setCell ⟨k, 2, none⟩ c2).heap[k]? = some (.cells #[c0, c1, c2, a3, a4, a5, a6, a7, a8, a9, a10, a11, a12, a13, a14, a15] ty (0, 0)) := by
      have q := blk_set s1 2 c2
      exact q
    have s3 : ((((w.setCell ⟨k, 0, none⟩ c0).setCell ⟨k, 1, none⟩ c1).setCell ⟨k, 2, none⟩ c2).setCell ⟨k, 3, none⟩ c3).heap[k]? = some (.cells #[c0, c1, c2, c3, a4, a5, a6, a7, a8, a9, a10, a11, a12, a13, a14, a15] ty (0, 0)) := by
      have q := blk_set s2 3 c3
      exact q
    have s4 : (((((w.setCell ⟨k, 0, none⟩ c0).setCell ⟨k, 1, none⟩ c1).setCell ⟨k, 2, none⟩ c2).setCell ⟨k, 3, none⟩ c3).setCell ⟨k, 4, none⟩ c4).heap[k]? = some (.cells #[c0, c1, c2, c3, c4, a5, a6, a7, a8, a9, a10, a11, a12, a13, a14, a15] ty (0, 0)) := by
      have q := blk_set s3 4 c4
      exact q
    have s5 : ((((((w.setCell ⟨k, 0, none⟩ c0).setCell ⟨k, 1, none⟩ c1).setCell ⟨k, 2, none⟩ c2).setCell ⟨k, 3, none⟩ c3).setCell ⟨k, 4, none⟩ c4).setCell ⟨k, 5, none⟩ c5).heap[k]? = some (.cells #[c0, c1, c2, c3, c4, c5, a6, a7, a8, a9, a10, a11, a12, a13, a14, a15] ty (0, 0)) := by
      have q := blk_set s4 5 c5
      exact q
    have s6 : (((((((w.setCell ⟨k, 0, none⟩ c0).setCell ⟨k, 1, none⟩ c1).setCell ⟨k, 2, none⟩ c2).setCell ⟨k, 3, none⟩ c3).setCell ⟨k, 4, none⟩ c4).setCell ⟨k, 5, none⟩ c5).setCell ⟨k, 6, none⟩ c6).heap[k]? = some (.cells #[c0, c1, c2, c3, c4, c5, c6, a7, a8, a9, a10, a11, a12, a13, a14, a15] ty (0, 0)) := by
      have q := blk_set s5 6 c6
      exact q
    have s7 : ((((((((w.setCell ⟨k, 0, none⟩ c0).setCell ⟨k, 1, none⟩ c1).setCell ⟨k, 2, none⟩ c2).setCell ⟨k, 3, none⟩ c3).setCell ⟨k, 4, none⟩ c4).setCell ⟨k, 5, none⟩ c5).setCell ⟨k, 6, none⟩ c6).setCell ⟨k, 7, none⟩ c7).heap[k]? = some (.cells #[c0, c1, c2, c3, c4, c5, c6, c7, a8, a9, a10, a11, a12, a13, a14, a15] ty (0, 0)) := by
      have q := blk_set s6 7 c7
      exact q
    have s8 : (((((((((w.setCell ⟨k, 0, none⟩ c0).setCell ⟨k, 1, none⟩ c1).setCell ⟨k, 2, none⟩ c2).setCell ⟨k, 3, none⟩ c3).setCell ⟨k, 4, none⟩ c4).setCell ⟨k, 5, none⟩ c5).setCell ⟨k, 6, none⟩ c6).setCell ⟨k, 7, none⟩ c7).setCell ⟨k, 8, none⟩ c8).heap[k]? = some (.cells #[c0, c1, c2, c3, c4, c5, c6, c7, c8, a9, a10, a11, a12, a13, a14, a15] ty (0, 0)) := by
      have q := blk_set s7 8 c8
      exact q
    have s9 : ((((((((((w.setCell ⟨k, 0, none⟩ c0).setCell ⟨k, 1, none⟩ c1).setCell ⟨k, 2, none⟩ c2).setCell ⟨k, 3, none⟩ c3).setCell ⟨k, 4, none⟩ c4).setCell ⟨k, 5, none⟩ c5).setCell ⟨k, 6, none⟩ c6).setCell ⟨k, 7, none⟩ c7).setCell ⟨k, 8, none⟩ c8).setCell ⟨k, 9, none⟩ c9).heap[k]? = some (.cells #[c0, c1, c2, c3, c4, c5, c6, c7, c8, c9, a10, a11, a12, a13, a14, a15] ty (0, 0)) := by
      have q := blk_set s8 9 c9
      exact q
    have s10 : (((((((((((w.setCell ⟨k, 0, none⟩ c0).setCell ⟨k, 1, none⟩ c1).setCell ⟨k, 2, none⟩ c2).setCell ⟨k, 3, none⟩ c3).setCell ⟨k, 4, none⟩ c4).setCell ⟨k, 5, none⟩ c5).setCell ⟨k, 6, none⟩ c6).setCell ⟨k, 7, none⟩ c7).setCell ⟨k, 8, none⟩ c8).setCell ⟨k, 9, none⟩ c9).setCell ⟨k, 10, none⟩ c10).heap[k]? = some (.cells #[c0, c1, c2, c3, c4, c5, c6, c7, c8, c9, c10, a11, a12, a13, a14, a15] ty (0, 0)) := by
      have q := blk_set s9 10 c10
      exact q
    have s11 : ((((((((((((w.setCell ⟨k, 0, none⟩ c0).setCell ⟨k, 1, none⟩ c1).setCell ⟨k, 2, none⟩ c2).setCell ⟨k, 3, none⟩ c3).setCell ⟨k, 4, none⟩ c4).setCell ⟨k, 5, none⟩ c5).setCell ⟨k, 6, none⟩ c6).setCell ⟨k, 7, none⟩ c7).setCell ⟨k, 8, none⟩ c8).setCell ⟨k, 9, none⟩ c9).setCell ⟨k, 10, none⟩ c10).setCell ⟨k, 11, none⟩ c11).heap[k]? = some (.cells #[c0, c1, c2, c3, c4, c5, c6, c7, c8, c9, c10, c11, a12, a13, a14, a15] ty (0, 0)) := by
      have q := blk_set s10 11 c11
      exact q
    have s12 : (((((((((((((w.setCell ⟨k, 0, none⟩ c0).setCell ⟨k, 1, none⟩ c1).setCell ⟨k, 2, none⟩ c2).setCell ⟨k, 3, none⟩ c3).setCell ⟨k, 4, none⟩ c4).setCell ⟨k, 5, none⟩ c5).setCell ⟨k, 6, none⟩ c6).setCell ⟨k, 7, none⟩ c7).setCell ⟨k, 8, none⟩ c8).setCell ⟨k, 9, none⟩ c9).setCell ⟨k, 10, none⟩ c10).setCell ⟨k, 11, none⟩ c11).setCell ⟨k, 12, none⟩ c12).heap[k]? = some (.cells #[c0, c1, c2, c3, c4, c5, c6, c7, c8, c9, c10, c11, c12, a13, a14, a15] ty (0, 0)) := by
      have q := blk_set s11 12 c12
      exact q
    have s13 : ((((((((((((((w.setCell ⟨k, 0, none⟩ c0).setCell ⟨k, 1, none⟩ c1).setCell ⟨k, 2, none⟩ c2).setCell ⟨k, 3, none⟩ c3).setCell ⟨k, 4, none⟩ c4).setCell ⟨k, 5, none⟩ c5).setCell ⟨k, 6, none⟩ c6).setCell ⟨k, 7, none⟩ c7).setCell ⟨k, 8, none⟩ c8).setCell ⟨k, 9, none⟩ c9).setCell ⟨k, 10, none⟩ c10).setCell ⟨k, 11, none⟩ c11).setCell ⟨k, 12, none⟩ c12).setCell ⟨k, 13, none⟩ c13).heap[k]? = some (.cells #[c0, c1, c2, c3, c4, c5, c6, c7, c8, c9, c10, c11, c12, c13, a14, a15] ty (0, 0)) := by
      have q := blk_set s12 13 c13
      exact q
    have s14 : (((((((((((((((w.setCell ⟨k, 0, none⟩ c0).setCell ⟨k, 1, none⟩ c1).setCell ⟨k, 2, none⟩ c2).setCell ⟨k, 3, none⟩ c3).setCell ⟨k, 4, none⟩ c4).setCell ⟨k, 5, none⟩ c5).setCell ⟨k, 6, none⟩ c6).setCell ⟨k, 7, none⟩ c7).setCell ⟨k, 8, none⟩ c8).setCell ⟨k, 9, none⟩ c9).setCell ⟨k, 10, none⟩ c10).setCell ⟨k, 11, none⟩ c11).setCell ⟨k, 12, none⟩ c12).setCell ⟨k, 13, none⟩ c13).setCell ⟨k, 14, none⟩ c14).heap[k]? = some (.cells #[c0, c1, c2, c3, c4, c5, c6, c7, c8, c9, c10, c11, c12, c13, c14, a15] ty (0, 0)) := by
      have q := blk_set s13 14 c14
      exact q
    have s15 : ((((((((((((((((w.setCell ⟨k, 0, none⟩ c0).setCell ⟨k, 1, none⟩ c1).setCell ⟨k, 2, none⟩ c2).setCell ⟨k, 3, none⟩ c3).setCell ⟨k, 4, none⟩ c4).setCell ⟨k, 5, none⟩ c5).setCell ⟨k, 6, none⟩ c6).setCell ⟨k, 7, none⟩ c7).setCell ⟨k, 8, none⟩ c8).setCell ⟨k, 9, none⟩ c9).setCell ⟨k, 10, none⟩ c10).setCell ⟨k, 11, none⟩ c11).setCell ⟨k, 12, none⟩ c12).setCell ⟨k, 13, none⟩ c13).setCell ⟨k, 14, none⟩ c14).setCell ⟨k, 15, none⟩ c15).heap[k]? = some (.cells #[c0, c1, c2, c3, c4, c5, c6, c7, c8, c9, c10, c11, c12, c13, c14, c15] ty (0, 0)) := by
      have q := blk_set s14 15 c15
      exact q
    exact s15

set_option maxRecDepth 100000 in
set_option maxHeartbeats 8000000 in
theorem read_good (b l : Nat) (s : ByteArray) (p f t : Nat) (fm : Int) (x : St) (W : World) (h : SL b l s p f t x W) (z : ByteArray) (S X Y P D M C : Int) (v0 v1 v2 v3 v4 v5 v6 v7 : Int) (hY : -9223372036854775807 ≤ Y ∧ Y ≤ 9223372036854775807) (q qq : Nat) (y yy : St) (KH0 : ∀ u, SL b l s p f t x u → Calls Tryd.prog 21 #[.agg #[.pointer (some ⟨b, 0, none⟩), .int .i64 fm, .int .i64 (p : Nat)]] u fun e w' => e = .returned (.tuple #[.string z, flV 0 0 0]) ∧ SL b l s q f t y w' ∧ Tn u w' [b, l]) (KN0 : ∀ u, Calls Tryd.prog 22 #[.string z] u fun e w' => e = .returned (.agg #[.int .i64 S, .int .i64 X, .int .i64 Y, .int .i64 P, .int .i64 D, .int .i64 M, .int .i64 C]) ∧ u.grownBy w' none) (KW0 : ∀ u, Calls Tryd.prog 23 #[.agg #[.int .i64 S, .int .i64 X, .int .i64 Y, .int .i64 P, .int .i64 D, .int .i64 M, .int .i64 C]] u fun e w' => e = .returned (.tuple #[.int .i64 0, .int .i64 0]) ∧ u.grownBy w' none) (KM0 : ∀ u, SL b l s q f t y u → Tn W u [b, l] → Calls Tryd.prog 25 #[.agg #[.pointer (some ⟨b, 0, none⟩), .int .i64 fm, .int .i64 (p : Nat)], .string z, .agg #[.int .i64 S, .int .i64 X, .int .i64 Y, .int .i64 P, .int .i64 D, .int .i64 M, .int .i64 C]] u fun e w' => e = .returned (.tuple #[.agg #[.int .i64 v0, .int .i64 v1, .int .i64 v2, .int .i64 v3, .int .i64 v4, .int .i64 v5, .int .i64 v6, .int .i64 v7], flV 0 0 0]) ∧ SL b l s qq f t yy w' ∧ Tn u w' [b, l]) :
    Calls Tryd.prog 10 #[.pointer (some ⟨b, 0, none⟩), .int .i64 fm] W
      fun e w' => e = .returned (.tuple #[.agg #[.int .i64 S, .int .i64 X, .int .i64 (fa Y), .bool (decide (Y < 0)), .int .i64 D, .int .i64 M, .int .i64 (clrC D C), .int .i64 v0, .int .i64 v1, .int .i64 v2, .int .i64 v3, .int .i64 v4, .int .i64 v5, .int .i64 v6, .int .i64 v7, .int .i64 (p : Nat)], flV 0 0 0]) ∧ SL b l s qq f t yy w' ∧ Tn W w' [b, l] := by
  have KFA := Lib.hid (fun u => far_calls Y hY.1 hY.2 u)
  have KC := Lib.hid (fun u => colors_calls S X Y P D M C u)
  obtain ⟨fy, hfy⟩ : ∃ r, fa Y = r := ⟨_, rfl⟩
  obtain ⟨cc, hcc⟩ : ∃ r, clrC D C = r := ⟨_, rfl⟩
  rw [hfy] at KFA ⊢
  rw [hcc] at KC ⊢
  unfold flV at KH0 KM0 ⊢
  clear hY hfy hcc
  have hblt := h.so.lt
  have hllt := h.led.lt
  have KA := Lib.hid (fun u (hu : SL b l s p f t x u) => at_calls b l s p f t u hu.so)
  have HS := Lib.hid (fun u (g : W.grownBy u none) => h.grown g)
  have KH := Lib.hid KH0
  clear h KH0
  have KN := Lib.hid KN0
  have KW := Lib.hid KW0
  have KM := Lib.hid KM0
  clear KN0 KW0 KM0
  go_enter Tryd.func10, Tryd.ntmps10
  go_wp2_with fail
  have g00 := gb_trans (World.grownBy_alloc W (.cells #[.int .i64 0, .int .i64 0, .int .i64 0, .bool false, .int .i64 0, .int .i64 0, .int .i64 0, .int .i64 0, .int .i64 0, .int .i64 0, .int .i64 0, .int .i64 0, .int .i64 0, .int .i64 0, .int .i64 0, .int .i64 0] 31) none) (World.grownBy_alloc (W.alloc (.cells #[.int .i64 0, .int .i64 0, .int .i64 0, .bool false, .int .i64 0, .int .i64 0, .int .i64 0, .int .i64 0, .int .i64 0, .int .i64 0, .int .i64 0, .int .i64 0, .int .i64 0, .int .i64 0, .int .i64 0, .int .i64 0] 31)) (.cells #[.int .i64 0, .int .i64 0, .int .i64 0] 33) none)
  refine (KA.out _ (HS.out _ g00)).mono ?_
  rintro e w' ⟨rfl, rfl⟩
  go_upto_region 2 with fail
  have I0 : RI W b l fm p _ := RI.new
  have HS0 := Lib.hid (HS.out _ (gb_trans g00 (World.grownBy_alloc _ (.cells #[.pointer (some ⟨b, 0, none⟩), .int .i64 fm, .int .i64 (p : Nat)] 58) none)))
  generalize (((W.alloc (.cells #[.int .i64 0, .int .i64 0, .int .i64 0, .bool false, .int .i64 0, .int .i64 0, .int .i64 0, .int .i64 0, .int .i64 0, .int .i64 0, .int .i64 0, .int .i64 0, .int .i64 0, .int .i64 0, .int .i64 0, .int .i64 0] 31)).alloc (.cells #[.int .i64 0, .int .i64 0, .int .i64 0] 33)).alloc (.cells #[.pointer (some ⟨b, 0, none⟩), .int .i64 fm, .int .i64 (p : Nat)] 58)) = w0 at I0 HS0 ⊢
  clear HS g00 KA
  have h0 := blk_cell I0.h 0
  have h1 := blk_cell I0.h 1
  have h2 := blk_cell I0.h 2
  have h3 := blk_cell I0.h 3
  have h4 := blk_cell I0.h 4
  have h5 := blk_cell I0.h 5
  have h6 := blk_cell I0.h 6
  have h7 := blk_cell I0.h 7
  have h8 := blk_cell I0.h 8
  have h9 := blk_cell I0.h 9
  have h10 := blk_cell I0.h 10
  have h11 := blk_cell I0.h 11
  have h12 := blk_cell I0.h 12
  have h13 := blk_cell I0.h 13
  have h14 := blk_cell I0.h 14
  have h15 := blk_cell I0.h 15
  have q0 := blk_free I0.h 0
  have q1 := blk_free I0.h 1
  have q2 := blk_free I0.h 2
  have q3 := blk_free I0.h 3
  have q4 := blk_free I0.h 4
  have q5 := blk_free I0.h 5
  have q6 := blk_free I0.h 6
  have q7 := blk_free I0.h 7
  have q8 := blk_free I0.h 8
  have q9 := blk_free I0.h 9
  have q10 := blk_free I0.h 10
  have q11 := blk_free I0.h 11
  have q12 := blk_free I0.h 12
  have q13 := blk_free I0.h 13
  have q14 := blk_free I0.h 14
  have q15 := blk_free I0.h 15
  simp only [List.getElem?_toArray, List.getElem?_cons_succ, List.getElem?_cons_zero] at h0 h1 h2 h3 h4 h5 h6 h7 h8 h9 h10 h11 h12 h13 h14 h15
  have d0 := blk_cell I0.f 0
  have d1 := blk_cell I0.f 1
  have d2 := blk_cell I0.f 2
  have e0 := blk_free I0.f 0
  have e1 := blk_free I0.f 1
  have e2 := blk_free I0.f 2
  simp only [List.getElem?_toArray, List.getElem?_cons_succ, List.getElem?_cons_zero] at d0 d1 d2
  have c0 := blk_cell I0.r 0
  have c1 := blk_cell I0.r 1
  have c2 := blk_cell I0.r 2
  simp only [List.getElem?_toArray, List.getElem?_cons_succ, List.getElem?_cons_zero] at c0 c1 c2
  have l0 := blk_lt I0.h
  have l1 := blk_lt I0.f
  have l2 := blk_lt I0.r
  have HI0 := Lib.hid I0
  clear I0
  go_wp2_with fail
  refine (KH.out _ HS0.out).mono ?_
  rintro e w1 ⟨rfl, S1, t1⟩
  have FV : (w1.alloc (.cells #[.int .i64 0, .int .i64 0, .int .i64 0] 33)).heap[w1.heap.size]? = some (.cells #[.int .i64 0, .int .i64 0, .int .i64 0] 33 (0, 0)) := blk_at
  have I1 := (HI0.out.turned hblt hllt t1).gb hblt hllt (World.grownBy_alloc w1 (.cells #[.int .i64 0, .int .i64 0, .int .i64 0] 33) none)
  have HS1 := Lib.hid (S1.grown (World.grownBy_alloc w1 (.cells #[.int .i64 0, .int .i64 0, .int .i64 0] 33) none))
  have hz := blk_lt (HI0.out.turned hblt hllt t1).r
  clear S1 t1 HI0 HS0
  clear h0 h1 h2 h3 h4 h5 h6 h7 h8 h9 h10 h11 h12 h13 h14 h15 q0 q1 q2 q3 q4 q5 q6 q7 q8 q9 q10 q11 q12 q13 q14 q15 d0 d1 d2 e0 e1 e2 c0 c1 c2 l0 l1 l2
  go_upto_region 3 with fail
  obtain ⟨fb, hfb⟩ : ∃ k, w1.heap.size = k := ⟨_, rfl⟩
  rw [hfb] at FV hz ⊢
  generalize w1.alloc (.cells #[.int .i64 0, .int .i64 0, .int .i64 0] 33) = w2 at FV I1 HS1 ⊢
  clear hfb
  have h0 := blk_cell I1.h 0
  have h1 := blk_cell I1.h 1
  have h2 := blk_cell I1.h 2
  have h3 := blk_cell I1.h 3
  have h4 := blk_cell I1.h 4
  have h5 := blk_cell I1.h 5
  have h6 := blk_cell I1.h 6
  have h7 := blk_cell I1.h 7
  have h8 := blk_cell I1.h 8
  have h9 := blk_cell I1.h 9
  have h10 := blk_cell I1.h 10
  have h11 := blk_cell I1.h 11
  have h12 := blk_cell I1.h 12
  have h13 := blk_cell I1.h 13
  have h14 := blk_cell I1.h 14
  have h15 := blk_cell I1.h 15
  have q0 := blk_free I1.h 0
  have q1 := blk_free I1.h 1
  have q2 := blk_free I1.h 2
  have q3 := blk_free I1.h 3
  have q4 := blk_free I1.h 4
  have q5 := blk_free I1.h 5
  have q6 := blk_free I1.h 6
  have q7 := blk_free I1.h 7
  have q8 := blk_free I1.h 8
  have q9 := blk_free I1.h 9
  have q10 := blk_free I1.h 10
  have q11 := blk_free I1.h 11
  have q12 := blk_free I1.h 12
  have q13 := blk_free I1.h 13
  have q14 := blk_free I1.h 14
  have q15 := blk_free I1.h 15
  simp only [List.getElem?_toArray, List.getElem?_cons_succ, List.getElem?_cons_zero] at h0 h1 h2 h3 h4 h5 h6 h7 h8 h9 h10 h11 h12 h13 h14 h15
  have d0 := blk_cell I1.f 0
  have d1 := blk_cell I1.f 1
  have d2 := blk_cell I1.f 2
  have e0 := blk_free I1.f 0
  have e1 := blk_free I1.f 1
  have e2 := blk_free I1.f 2
  simp only [List.getElem?_toArray, List.getElem?_cons_succ, List.getElem?_cons_zero] at d0 d1 d2
  have c0 := blk_cell I1.r 0
  have c1 := blk_cell I1.r 1
  have c2 := blk_cell I1.r 2
  simp only [List.getElem?_toArray, List.getElem?_cons_succ, List.getElem?_cons_zero] at c0 c1 c2
  have l0 := blk_lt I1.h
  have l1 := blk_lt I1.f
  have l2 := blk_lt I1.r
  have HI1 := Lib.hid I1
  clear I1
  have k0 := blk_cell FV 0
  have k1 := blk_cell FV 1
  have k2 := blk_cell FV 2
  simp only [List.getElem?_toArray, List.getElem?_cons_succ, List.getElem?_cons_zero] at k0 k1 k2
  have m4 := blk_lt FV
  have HFV := Lib.hid FV
  clear FV
  go_wp2_with fail
  refine (KN.out _).mono ?_
  rintro e w3 ⟨rfl, g3⟩
  have F3 := blk_tn HFV.out (by omega) (by omega) (Tn.gb (S := [b, l]) g3 (by simp))
  have I3 := (HI1.out.gb hblt hllt g3).gb hblt hllt (World.grownBy_alloc w3 (.cells #[.int .i64 S, .int .i64 X, .int .i64 Y, .int .i64 P, .int .i64 D, .int .i64 M, .int .i64 C] 62) none)
  have HS3 := Lib.hid ((HS1.out.grown g3).grown (World.grownBy_alloc w3 (.cells #[.int .i64 S, .int .i64 X, .int .i64 Y, .int .i64 P, .int .i64 D, .int .i64 M, .int .i64 C] 62) none))
  have hz3 := blk_lt F3
  have N3 : (w3.alloc (.cells #[.int .i64 S, .int .i64 X, .int .i64 Y, .int .i64 P, .int .i64 D, .int .i64 M, .int .i64 C] 62)).heap[w3.heap.size]? = some (.cells #[.int .i64 S, .int .i64 X, .int .i64 Y, .int .i64 P, .int .i64 D, .int .i64 M, .int .i64 C] 62 (0, 0)) := blk_at
  replace F3 := blk_al F3 (.cells #[.int .i64 S, .int .i64 X, .int .i64 Y, .int .i64 P, .int .i64 D, .int .i64 M, .int .i64 C] 62)
  clear g3 HI1 HS1 HFV k0 k1 k2 m4
  clear h0 h1 h2 h3 h4 h5 h6 h7 h8 h9 h10 h11 h12 h13 h14 h15 q0 q1 q2 q3 q4 q5 q6 q7 q8 q9 q10 q11 q12 q13 q14 q15 d0 d1 d2 e0 e1 e2 c0 c1 c2 l0 l1 l2
  go_upto_region 6 with fail
  obtain ⟨nb, hnb⟩ : ∃ k, w3.heap.size = k := ⟨_, rfl⟩
  rw [hnb] at N3 hz3 ⊢
  generalize w3.alloc (.cells #[.int .i64 S, .int .i64 X, .int .i64 Y, .int .i64 P, .int .i64 D, .int .i64 M, .int .i64 C] 62) = w4 at F3 N3 I3 HS3 ⊢
  clear hnb
  have h0 := blk_cell I3.h 0
  have h1 := blk_cell I3.h 1
  have h2 := blk_cell I3.h 2
  have h3 := blk_cell I3.h 3
  have h4 := blk_cell I3.h 4
  have h5 := blk_cell I3.h 5
  have h6 := blk_cell I3.h 6
  have h7 := blk_cell I3.h 7
  have h8 := blk_cell I3.h 8
  have h9 := blk_cell I3.h 9
  have h10 := blk_cell I3.h 10
  have h11 := blk_cell I3.h 11
  have h12 := blk_cell I3.h 12
  have h13 := blk_cell I3.h 13
  have h14 := blk_cell I3.h 14
  have h15 := blk_cell I3.h 15
  have q0 := blk_free I3.h 0
  have q1 := blk_free I3.h 1
  have q2 := blk_free I3.h 2
  have q3 := blk_free I3.h 3
  have q4 := blk_free I3.h 4
  have q5 := blk_free I3.h 5
  have q6 := blk_free I3.h 6
  have q7 := blk_free I3.h 7
  have q8 := blk_free I3.h 8
  have q9 := blk_free I3.h 9
  have q10 := blk_free I3.h 10
  have q11 := blk_free I3.h 11
  have q12 := blk_free I3.h 12
  have q13 := blk_free I3.h 13
  have q14 := blk_free I3.h 14
  have q15 := blk_free I3.h 15
  simp only [List.getElem?_toArray, List.getElem?_cons_succ, List.getElem?_cons_zero] at h0 h1 h2 h3 h4 h5 h6 h7 h8 h9 h10 h11 h12 h13 h14 h15
  have d0 := blk_cell I3.f 0
  have d1 := blk_cell I3.f 1
  have d2 := blk_cell I3.f 2
  have e0 := blk_free I3.f 0
  have e1 := blk_free I3.f 1
  have e2 := blk_free I3.f 2
  simp only [List.getElem?_toArray, List.getElem?_cons_succ, List.getElem?_cons_zero] at d0 d1 d2
  have c0 := blk_cell I3.r 0
  have c1 := blk_cell I3.r 1
  have c2 := blk_cell I3.r 2
  simp only [List.getElem?_toArray, List.getElem?_cons_succ, List.getElem?_cons_zero] at c0 c1 c2
  have l0 := blk_lt I3.h
  have l1 := blk_lt I3.f
  have l2 := blk_lt I3.r
  have HI3 := Lib.hid I3
  clear I3
  have k0 := blk_cell F3 0
  have k1 := blk_cell F3 1
  have k2 := blk_cell F3 2
  simp only [List.getElem?_toArray, List.getElem?_cons_succ, List.getElem?_cons_zero] at k0 k1 k2
  have n0 := blk_cell N3 0
  have n1 := blk_cell N3 1
  have n2 := blk_cell N3 2
  have n3 := blk_cell N3 3
  have n4 := blk_cell N3 4
  have n5 := blk_cell N3 5
  have n6 := blk_cell N3 6
  simp only [List.getElem?_toArray, List.getElem?_cons_succ, List.getElem?_cons_zero] at n0 n1 n2 n3 n4 n5 n6
  have m4 := blk_lt F3
  have m5 := blk_lt N3
  have HF3 := Lib.hid F3
  have HN3 := Lib.hid N3
  clear F3 N3
  go_wp2_with fail
  refine (KW.out _).mono ?_
  rintro e w5 ⟨rfl, g5⟩
  have F5 := blk_tn HF3.out (by omega) (by omega) (Tn.gb (S := [b, l]) g5 (by simp))
  have N5 := blk_tn HN3.out (by omega) (by omega) (Tn.gb (S := [b, l]) g5 (by simp))
  have I5 := HI3.out.gb hblt hllt g5
  have HS5 := Lib.hid (HS3.out.grown g5)
  clear g5 HI3 HS3 HF3 HN3 k0 k1 k2 m4 m5 n0 n1 n2 n3 n4 n5 n6
  clear h0 h1 h2 h3 h4 h5 h6 h7 h8 h9 h10 h11 h12 h13 h14 h15 q0 q1 q2 q3 q4 q5 q6 q7 q8 q9 q10 q11 q12 q13 q14 q15 d0 d1 d2 e0 e1 e2 c0 c1 c2 l0 l1 l2
  have h0 := blk_cell I5.h 0
  have h1 := blk_cell I5.h 1
  have h2 := blk_cell I5.h 2
  have h3 := blk_cell I5.h 3
  have h4 := blk_cell I5.h 4
  have h5 := blk_cell I5.h 5
  have h6 := blk_cell I5.h 6
  have h7 := blk_cell I5.h 7
  have h8 := blk_cell I5.h 8
  have h9 := blk_cell I5.h 9
  have h10 := blk_cell I5.h 10
  have h11 := blk_cell I5.h 11
  have h12 := blk_cell I5.h 12
  have h13 := blk_cell I5.h 13
  have h14 := blk_cell I5.h 14
  have h15 := blk_cell I5.h 15
  have q0 := blk_free I5.h 0
  have q1 := blk_free I5.h 1
  have q2 := blk_free I5.h 2
  have q3 := blk_free I5.h 3
  have q4 := blk_free I5.h 4
  have q5 := blk_free I5.h 5
  have q6 := blk_free I5.h 6
  have q7 := blk_free I5.h 7
  have q8 := blk_free I5.h 8
  have q9 := blk_free I5.h 9
  have q10 := blk_free I5.h 10
  have q11 := blk_free I5.h 11
  have q12 := blk_free I5.h 12
  have q13 := blk_free I5.h 13
  have q14 := blk_free I5.h 14
  have q15 := blk_free I5.h 15
  simp only [List.getElem?_toArray, List.getElem?_cons_succ, List.getElem?_cons_zero] at h0 h1 h2 h3 h4 h5 h6 h7 h8 h9 h10 h11 h12 h13 h14 h15
  have d0 := blk_cell I5.f 0
  have d1 := blk_cell I5.f 1
  have d2 := blk_cell I5.f 2
  have e0 := blk_free I5.f 0
  have e1 := blk_free I5.f 1
  have e2 := blk_free I5.f 2
  simp only [List.getElem?_toArray, List.getElem?_cons_succ, List.getElem?_cons_zero] at d0 d1 d2
  have c0 := blk_cell I5.r 0
  have c1 := blk_cell I5.r 1
  have c2 := blk_cell I5.r 2
  simp only [List.getElem?_toArray, List.getElem?_cons_succ, List.getElem?_cons_zero] at c0 c1 c2
  have l0 := blk_lt I5.h
  have l1 := blk_lt I5.f
  have l2 := blk_lt I5.r
  have HI5 := Lib.hid I5
  clear I5
  have k0 := blk_cell F5 0
  have k1 := blk_cell F5 1
  have k2 := blk_cell F5 2
  have g0 := blk_free F5 0
  have g1 := blk_free F5 1
  have g2 := blk_free F5 2
  simp only [List.getElem?_toArray, List.getElem?_cons_succ, List.getElem?_cons_zero] at k0 k1 k2
  have n0 := blk_cell N5 0
  have n1 := blk_cell N5 1
  have n2 := blk_cell N5 2
  have n3 := blk_cell N5 3
  have n4 := blk_cell N5 4
  have n5 := blk_cell N5 5
  have n6 := blk_cell N5 6
  simp only [List.getElem?_toArray, List.getElem?_cons_succ, List.getElem?_cons_zero] at n0 n1 n2 n3 n4 n5 n6
  have m4 := blk_lt F5
  have m5 := blk_lt N5
  have HF5 := Lib.hid F5
  have HN5 := Lib.hid N5
  clear F5 N5
  go_wp2_with fail
  refine (KM.out _ HS5.out HI5.out.t).mono ?_
  rintro e w7 ⟨rfl, S7, t7⟩
  have I7 := (HI5.out.turned hblt hllt t7).gb hblt hllt (World.grownBy_alloc w7 (.cells #[.int .i64 v0, .int .i64 v1, .int .i64 v2, .int .i64 v3, .int .i64 v4, .int .i64 v5, .int .i64 v6, .int .i64 v7] 29) none)
  have N7 := blk_al (blk_tn HN5.out (by omega) (by omega) t7) (.cells #[.int .i64 v0, .int .i64 v1, .int .i64 v2, .int .i64 v3, .int .i64 v4, .int .i64 v5, .int .i64 v6, .int .i64 v7] 29)
  have F7 := blk_al (blk_tn HF5.out (by omega) (by omega) t7) (.cells #[.int .i64 v0, .int .i64 v1, .int .i64 v2, .int .i64 v3, .int .i64 v4, .int .i64 v5, .int .i64 v6, .int .i64 v7] 29)
  have hz7 := blk_lt (blk_tn HN5.out (by omega) (by omega) t7)
  have HS7 := Lib.hid (S7.grown (World.grownBy_alloc w7 (.cells #[.int .i64 v0, .int .i64 v1, .int .i64 v2, .int .i64 v3, .int .i64 v4, .int .i64 v5, .int .i64 v6, .int .i64 v7] 29) none))
  have A7 : (w7.alloc (.cells #[.int .i64 v0, .int .i64 v1, .int .i64 v2, .int .i64 v3, .int .i64 v4, .int .i64 v5, .int .i64 v6, .int .i64 v7] 29)).heap[w7.heap.size]? = some (.cells #[.int .i64 v0, .int .i64 v1, .int .i64 v2, .int .i64 v3, .int .i64 v4, .int .i64 v5, .int .i64 v6, .int .i64 v7] 29 (0, 0)) := blk_at
  clear HI5 HS5 HN5 HF5 S7 t7 k0 k1 k2 g0 g1 g2 n0 n1 n2 n3 n4 n5 n6 m4 m5
  clear h0 h1 h2 h3 h4 h5 h6 h7 h8 h9 h10 h11 h12 h13 h14 h15 q0 q1 q2 q3 q4 q5 q6 q7 q8 q9 q10 q11 q12 q13 q14 q15 d0 d1 d2 e0 e1 e2 c0 c1 c2 l0 l1 l2
  have f0 := blk_cell F7 0
  have f1 := blk_cell F7 1
  have f2 := blk_cell F7 2
  have j0 := blk_free F7 0
  have j1 := blk_free F7 1
  have j2 := blk_free F7 2
  have j3 := blk_lt F7
  have hfn : fb < nb := hz3
  go_upto_region 10 with fail
  obtain ⟨sb, hsb⟩ : ∃ k, w7.heap.size = k := ⟨_, rfl⟩
  rw [hsb] at A7 hz7 ⊢
  generalize w7.alloc (.cells #[.int .i64 v0, .int .i64 v1, .int .i64 v2, .int .i64 v3, .int .i64 v4, .int .i64 v5, .int .i64 v6, .int .i64 v7] 29) = w8 at A7 F7 N7 I7 HS7 f0 f1 f2 j0 j1 j2 j3 ⊢
  clear hsb
  have F8 : (((w8.setCell ⟨fb, 0, none⟩ (.int .i64 0)).setCell ⟨fb, 1, none⟩ (.int .i64 0)).setCell ⟨fb, 2, none⟩ (.int .i64 0)).heap[fb]? = some (.cells #[.int .i64 0, .int .i64 0, .int .i64 0] 33 (0, 0)) := blk_set (blk_set (blk_set F7 0 _) 1 _) 2 _
  have I8 := ((I7.st (k := fb) (i := 0) (v := .int .i64 0) (by omega)).st (k := fb) (i := 1) (v := .int .i64 0) (by omega)).st (k := fb) (i := 2) (v := .int .i64 0) (by omega)
  have N8 := blk_other (c := fb) (o := 2) (v := .int .i64 0) (blk_other (c := fb) (o := 1) (v := .int .i64 0) (blk_other (c := fb) (o := 0) (v := .int .i64 0) N7 (by omega)) (by omega)) (by omega)
  have A8 := blk_other (c := fb) (o := 2) (v := .int .i64 0) (blk_other (c := fb) (o := 1) (v := .int .i64 0) (blk_other (c := fb) (o := 0) (v := .int .i64 0) A7 (by omega)) (by omega)) (by omega)
  have HS8 := Lib.hid (((HS7.out.st (k := fb) (i := 0) (v := .int .i64 0) (by omega) (by omega)).st (k := fb) (i := 1) (v := .int .i64 0) (by omega) (by omega)).st (k := fb) (i := 2) (v := .int .i64 0) (by omega) (by omega))
  clear F7 N7 A7 I7 HS7 f0 f1 f2 j0 j1 j2 j3
  generalize (((w8.setCell ⟨fb, 0, none⟩ (.int .i64 0)).setCell ⟨fb, 1, none⟩ (.int .i64 0)).setCell ⟨fb, 2, none⟩ (.int .i64 0)) = w9 at F8 I8 N8 A8 HS8 ⊢
  have h0 := blk_cell I8.h 0
  have h1 := blk_cell I8.h 1
  have h2 := blk_cell I8.h 2
  have h3 := blk_cell I8.h 3
  have h4 := blk_cell I8.h 4
  have h5 := blk_cell I8.h 5
  have h6 := blk_cell I8.h 6
  have h7 := blk_cell I8.h 7
  have h8 := blk_cell I8.h 8
  have h9 := blk_cell I8.h 9
  have h10 := blk_cell I8.h 10
  have h11 := blk_cell I8.h 11
  have h12 := blk_cell I8.h 12
  have h13 := blk_cell I8.h 13
  have h14 := blk_cell I8.h 14
  have h15 := blk_cell I8.h 15
  have q0 := blk_free I8.h 0
  have q1 := blk_free I8.h 1
  have q2 := blk_free I8.h 2
  have q3 := blk_free I8.h 3
  have q4 := blk_free I8.h 4
  have q5 := blk_free I8.h 5
  have q6 := blk_free I8.h 6
  have q7 := blk_free I8.h 7
  have q8 := blk_free I8.h 8
  have q9 := blk_free I8.h 9
  have q10 := blk_free I8.h 10
  have q11 := blk_free I8.h 11
  have q12 := blk_free I8.h 12
  have q13 := blk_free I8.h 13
  have q14 := blk_free I8.h 14
  have q15 := blk_free I8.h 15
  simp only [List.getElem?_toArray, List.getElem?_cons_succ, List.getElem?_cons_zero] at h0 h1 h2 h3 h4 h5 h6 h7 h8 h9 h10 h11 h12 h13 h14 h15
  have d0 := blk_cell I8.f 0
  have d1 := blk_cell I8.f 1
  have d2 := blk_cell I8.f 2
  have e0 := blk_free I8.f 0
  have e1 := blk_free I8.f 1
  have e2 := blk_free I8.f 2
  simp only [List.getElem?_toArray, List.getElem?_cons_succ, List.getElem?_cons_zero] at d0 d1 d2
  have c0 := blk_cell I8.r 0
  have c1 := blk_cell I8.r 1
  have c2 := blk_cell I8.r 2
  simp only [List.getElem?_toArray, List.getElem?_cons_succ, List.getElem?_cons_zero] at c0 c1 c2
  have l0 := blk_lt I8.h
  have l1 := blk_lt I8.f
  have l2 := blk_lt I8.r
  have HI8 := Lib.hid I8
  clear I8
  have f0 := blk_cell F8 0
  have f1 := blk_cell F8 1
  have f2 := blk_cell F8 2
  simp only [List.getElem?_toArray, List.getElem?_cons_succ, List.getElem?_cons_zero] at f0 f1 f2
  have n0 := blk_cell N8 0
  have n1 := blk_cell N8 1
  have n2 := blk_cell N8 2
  have n3 := blk_cell N8 3
  have n4 := blk_cell N8 4
  have n5 := blk_cell N8 5
  have n6 := blk_cell N8 6
  simp only [List.getElem?_toArray, List.getElem?_cons_succ, List.getElem?_cons_zero] at n0 n1 n2 n3 n4 n5 n6
  have sv0 := blk_cell A8 0
  have sv1 := blk_cell A8 1
  have sv2 := blk_cell A8 2
  have sv3 := blk_cell A8 3
  have sv4 := blk_cell A8 4
  have sv5 := blk_cell A8 5
  have sv6 := blk_cell A8 6
  have sv7 := blk_cell A8 7
  simp only [List.getElem?_toArray, List.getElem?_cons_succ, List.getElem?_cons_zero] at sv0 sv1 sv2 sv3 sv4 sv5 sv6 sv7
  have m4 := blk_lt F8
  have m5 := blk_lt N8
  have m6 := blk_lt A8
  have HF8 := Lib.hid F8
  have HN8 := Lib.hid N8
  have HA8 := Lib.hid A8
  clear F8 N8 A8
  have z0 : ¬ nb = W.heap.size := by omega
  have z1 : ¬ nb = W.heap.size + 1 := by omega
  have z2 : ¬ W.heap.size = nb := by omega
  have z3 : ¬ W.heap.size + 1 = nb := by omega
  have z4 : ¬ sb = W.heap.size := by omega
  have z5 : ¬ sb = W.heap.size + 1 := by omega
  have z6 : ¬ W.heap.size = sb := by omega
  have z7 : ¬ W.heap.size + 1 = sb := by omega
  have z8 : ¬ W.heap.size + 1 + 1 = W.heap.size := by omega
  have z9 : ¬ W.heap.size + 1 + 1 = W.heap.size + 1 := by omega
  have za : ¬ W.heap.size = W.heap.size + 1 + 1 := by omega
  have zb : ¬ W.heap.size + 1 = W.heap.size + 1 + 1 := by omega
  go_wp2_with fail
  go_region_held3 (fun w' => w'.cell? ⟨nb, 0, none⟩ = some (.int .i64 S) ∧ w'.cell? ⟨nb, 1, none⟩ = some (.int .i64 X) ∧ w'.cell? ⟨nb, 2, none⟩ = some (.int .i64 Y) ∧ w'.cell? ⟨nb, 3, none⟩ = some (.int .i64 P) ∧ w'.cell? ⟨nb, 4, none⟩ = some (.int .i64 D) ∧ w'.cell? ⟨nb, 5, none⟩ = some (.int .i64 M) ∧ w'.cell? ⟨nb, 6, none⟩ = some (.int .i64 C) ∧ w'.cell? ⟨sb, 0, none⟩ = some (.int .i64 v0) ∧ w'.cell? ⟨sb, 1, none⟩ = some (.int .i64 v1) ∧ w'.cell? ⟨sb, 2, none⟩ = some (.int .i64 v2) ∧ w'.cell? ⟨sb, 3, none⟩ = some (.int .i64 v3) ∧ w'.cell? ⟨sb, 4, none⟩ = some (.int .i64 v4) ∧ w'.cell? ⟨sb, 5, none⟩ = some (.int .i64 v5) ∧ w'.cell? ⟨sb, 6, none⟩ = some (.int .i64 v6) ∧ w'.cell? ⟨sb, 7, none⟩ = some (.int .i64 v7) ∧ w'.cell? ⟨W.heap.size + 1 + 1, 2, none⟩ = some (.int .i64 (p : Nat))) (go_keep)
    (first
      | (go_at_call 26; with_reducible refine (KFA.out _).mono ?_; rintro e w' ⟨rfl, rfl⟩)
      | (go_at_call 27; refine (KC.out _).mono ?_; rintro e u9 ⟨rfl, g9⟩; have HG9 := Lib.hid (show w9.grownBy u9 none from by first | exact gb_trans (gb_drew _ _) g9 | exact g9); have NN := old0 HG9.out HN8.out (blk_lt HN8.out) (by simp); have AA := old0 HG9.out HA8.out (blk_lt HA8.out) (by simp); have II := HI8.out.gb hblt hllt HG9.out; have y0 := blk_cell NN 0; have y1 := blk_cell NN 1; have y2 := blk_cell NN 2; have y3 := blk_cell NN 3; have y4 := blk_cell NN 4; have y5 := blk_cell NN 5; have y6 := blk_cell NN 6; have x0 := blk_cell AA 0; have x1 := blk_cell AA 1; have x2 := blk_cell AA 2; have x3 := blk_cell AA 3; have x4 := blk_cell AA 4; have x5 := blk_cell AA 5; have x6 := blk_cell AA 6; have x7 := blk_cell AA 7; have xx := blk_cell II.r 2; have q0 := blk_free II.h 0; have q1 := blk_free II.h 1; have q2 := blk_free II.h 2; have q3 := blk_free II.h 3; have q4 := blk_free II.h 4; have q5 := blk_free II.h 5; have q6 := blk_free II.h 6; have q7 := blk_free II.h 7; have q8 := blk_free II.h 8; have q9 := blk_free II.h 9; have q10 := blk_free II.h 10; have q11 := blk_free II.h 11; have q12 := blk_free II.h 12; have q13 := blk_free II.h 13; have q14 := blk_free II.h 14; have q15 := blk_free II.h 15; have e0 := blk_free II.f 0; have e1 := blk_free II.f 1; have e2 := blk_free II.f 2; have h0 := blk_cell II.h 0; have h1 := blk_cell II.h 1; have h2 := blk_cell II.h 2; have h3 := blk_cell II.h 3; have h4 := blk_cell II.h 4; have h5 := blk_cell II.h 5; have h6 := blk_cell II.h 6; have h7 := blk_cell II.h 7; have h8 := blk_cell II.h 8; have h9 := blk_cell II.h 9; have h10 := blk_cell II.h 10; have h11 := blk_cell II.h 11; have h12 := blk_cell II.h 12; have h13 := blk_cell II.h 13; have h14 := blk_cell II.h 14; have h15 := blk_cell II.h 15; have d0 := blk_cell II.f 0; have d1 := blk_cell II.f 1; have d2 := blk_cell II.f 2; have l5 := blk_lt II.h; have l6 := blk_lt II.f; have l7 := blk_lt NN; have l8 := blk_lt AA; have l9 := blk_lt II.r; simp only [List.getElem?_toArray, List.getElem?_cons_succ, List.getElem?_cons_zero] at y0 y1 y2 y3 y4 y5 y6 x0 x1 x2 x3 x4 x5 x6 x7 xx h0 h1 h2 h3 h4 h5 h6 h7 h8 h9 h10 h11 h12 h13 h14 h15 d0 d1 d2; clear NN AA g9; have HII := Lib.hid II; clear II))
  all_goals
    refine abs_w (R := fun w => w.heap[W.heap.size]? = some (.cells #[.int .i64 S, .int .i64 X, .int .i64 fy, .bool (decide (Y < 0)), .int .i64 D, .int .i64 M, .int .i64 cc, .int .i64 v0, .int .i64 v1, .int .i64 v2, .int .i64 v3, .int .i64 v4, .int .i64 v5, .int .i64 v6, .int .i64 v7, .int .i64 (p : Nat)] 31 (0, 0)) ∧ w.heap[W.heap.size + 1]? = some (.cells #[.int .i64 0, .int .i64 0, .int .i64 0] 33 (0, 0)) ∧ SL b l s qq f t yy w ∧ Tn W w [b, l]) ⟨?_, ?_, ?_, ?_⟩ (fun wz RZ => ?_)
    · exact blk_other (blk_other (blk_other (set16 HII.out.h (.int .i64 S) (.int .i64 X) (.int .i64 fy) (.bool (decide (Y < 0))) (.int .i64 D) (.int .i64 M) (.int .i64 cc) (.int .i64 v0) (.int .i64 v1) (.int .i64 v2) (.int .i64 v3) (.int .i64 v4) (.int .i64 v5) (.int .i64 v6) (.int .i64 v7) (.int .i64 (p : Nat))) (by omega)) (by omega)) (by omega)
    · exact blk_set (blk_set (blk_set (blk_other (blk_other (blk_other (blk_other (blk_other (blk_other (blk_other (blk_other (blk_other (blk_other (blk_other (blk_other (blk_other (blk_other (blk_other (blk_other (HII.out.f) (by omega)) (by omega)) (by omega)) (by omega)) (by omega)) (by omega)) (by omega)) (by omega)) (by omega)) (by omega)) (by omega)) (by omega)) (by omega)) (by omega)) (by omega)) (by omega)) 0 _) 1 _) 2 _
    · exact SL.st (SL.st (SL.st (SL.st (SL.st (SL.st (SL.st (SL.st (SL.st (SL.st (SL.st (SL.st (SL.st (SL.st (SL.st (SL.st (SL.st (SL.st (SL.st (HS8.out.grown HG9.out) (by omega) (by omega)) (by omega) (by omega)) (by omega) (by omega)) (by omega) (by omega)) (by omega) (by omega)) (by omega) (by omega)) (by omega) (by omega)) (by omega) (by omega)) (by omega) (by omega)) (by omega) (by omega)) (by omega) (by omega)) (by omega) (by omega)) (by omega) (by omega)) (by omega) (by omega)) (by omega) (by omega)) (by omega) (by omega)) (by omega) (by omega)) (by omega) (by omega)) (by omega) (by omega)
    · exact tn_own1 (tn_own1 (tn_own1 (tn_own1 (tn_own1 (tn_own1 (tn_own1 (tn_own1 (tn_own1 (tn_own1 (tn_own1 (tn_own1 (tn_own1 (tn_own1 (tn_own1 (tn_own1 (tn_own1 (tn_own1 (tn_own1 (HII.out.t) (by omega)) (by omega)) (by omega)) (by omega)) (by omega)) (by omega)) (by omega)) (by omega)) (by omega)) (by omega)) (by omega)) (by omega)) (by omega)) (by omega)) (by omega)) (by omega)) (by omega)) (by omega)) (by omega)
    have A1 := RZ.1
    have A2 := RZ.2.1
    have HA3 := Lib.hid RZ.2.2
    clear RZ HII HG9 HS8 HI8 HF8 HN8 HA8 y0 y1 y2 y3 y4 y5 y6 x0 x1 x2 x3 x4 x5 x6 x7 xx q0 q1 q2 q3 q4 q5 q6 q7 q8 q9 q10 q11 q12 q13 q14 q15 e0 e1 e2 h0 h1 h2 h3 h4 h5 h6 h7 h8 h9 h10 h11 h12 h13 h14 h15 d0 d1 d2 l5 l6 l7 l8 l9 n0 n1 n2 n3 n4 n5 n6 sv0 sv1 sv2 sv3 sv4 sv5 sv6 sv7 f0 f1 f2
    have r0 := blk_lt A1
    have r1 := blk_lt A2
    have zh0 := blk_cell A1 0
    have zh1 := blk_cell A1 1
    have zh2 := blk_cell A1 2
    have zh3 := blk_cell A1 3
    have zh4 := blk_cell A1 4
    have zh5 := blk_cell A1 5
    have zh6 := blk_cell A1 6
    have zh7 := blk_cell A1 7
    have zh8 := blk_cell A1 8
    have zh9 := blk_cell A1 9
    have zh10 := blk_cell A1 10
    have zh11 := blk_cell A1 11
    have zh12 := blk_cell A1 12
    have zh13 := blk_cell A1 13
    have zh14 := blk_cell A1 14
    have zh15 := blk_cell A1 15
    have zq0 := blk_free A1 0
    have zq1 := blk_free A1 1
    have zq2 := blk_free A1 2
    have zq3 := blk_free A1 3
    have zq4 := blk_free A1 4
    have zq5 := blk_free A1 5
    have zq6 := blk_free A1 6
    have zq7 := blk_free A1 7
    have zq8 := blk_free A1 8
    have zq9 := blk_free A1 9
    have zq10 := blk_free A1 10
    have zq11 := blk_free A1 11
    have zq12 := blk_free A1 12
    have zq13 := blk_free A1 13
    have zq14 := blk_free A1 14
    have zq15 := blk_free A1 15
    simp only [List.getElem?_toArray, List.getElem?_cons_succ, List.getElem?_cons_zero] at zh0 zh1 zh2 zh3 zh4 zh5 zh6 zh7 zh8 zh9 zh10 zh11 zh12 zh13 zh14 zh15
    have zd0 := blk_cell A2 0
    have zd1 := blk_cell A2 1
    have zd2 := blk_cell A2 2
    have ze0 := blk_free A2 0
    have ze1 := blk_free A2 1
    have ze2 := blk_free A2 2
    simp only [List.getElem?_toArray, List.getElem?_cons_succ, List.getElem?_cons_zero] at zd0 zd1 zd2
    go_wp2
    refine bodyPost_ret (v := .tuple #[.agg #[.int .i64 S, .int .i64 X, .int .i64 fy, .bool (decide (Y < 0)), .int .i64 D, .int .i64 M, .int .i64 cc, .int .i64 v0, .int .i64 v1, .int .i64 v2, .int .i64 v3, .int .i64 v4, .int .i64 v5, .int .i64 v6, .int .i64 v7, .int .i64 (p : Nat)], .agg #[.int .i64 0, .int .i64 0, .int .i64 0]]) (by simp only [results, Tryd.results10]; go_simp) rfl ⟨rfl, HA3.out.1, HA3.out.2⟩


end Go.Proofs.YtikjfmpdfeaooaaDoor.Dh

/- The document's Read of a long head: small answers; the parts of its body (written by wip/gen/di1.py). -/
namespace Go.Proofs.YtikjfmpdfeaooaaDoor.Dh
open Go.ChangeShapes Go.WideShapes Go.ChangeAt Go.RowKit
open Go.Proofs.YtikjfmpdfeaooaaDoor.Le Go.Proofs.YtikjfmpdfeaooaaDoor.Sr Go.Proofs.YtikjfmpdfeaooaaDoor.Ma
set_option linter.unusedVariables false

/-- The parts of a body that is put together. -/
def hd7 : Code → Code
  | .seq a _ => a
  | c => c
def tl7 : Code → Code
  | .seq _ b => b
  | c => c
noncomputable def bd20 : Code := (Tryd.f11).body.getD .skip

def badA (k p : Int) : Array Value := #[.int .i64 0, .int .i64 0, .int .i64 0, .bool false, .int .i64 0, .int .i64 0, .int .i64 0, .int .i64 0, .int .i64 0, .int .i64 0, .int .i64 0, .int .i64 0, .int .i64 0, .int .i64 k, .int .i64 p]
theorem rbad_calls (k p : Int) (W : World) : Calls Tryd.prog 28 #[.int .i64 k, .int .i64 p] W fun e w' => e = .returned (.agg (badA k p)) ∧ W.grownBy w' none := by
  unfold badA
  go_enter Tryd.func28, Tryd.ntmps28
  go_wp2
  refine bodyPost_ret (v := .agg #[.int .i64 0, .int .i64 0, .int .i64 0, .bool false, .int .i64 0, .int .i64 0, .int .i64 0, .int .i64 0, .int .i64 0, .int .i64 0, .int .i64 0, .int .i64 0, .int .i64 0, .int .i64 k, .int .i64 p]) (by simp only [results, Tryd.results28]; go_simp) rfl ⟨rfl, ?_⟩
  exact World.grownBy_alloc _ _ _
def sdV (v : Int) : Int := if v ≤ 0 then 2 else if 16384 < v then 3 else 0
theorem rside_calls (v : Int) (W : World) : Calls Tryd.prog 32 #[.int .i64 v] W fun e w' => e = .returned (.int .i64 (sdV v)) ∧ W = w' := by
  by_cases h1 : v ≤ 0
  · rw [show sdV v = 2 from if_pos h1]
    go_enter Tryd.func32, Tryd.ntmps32
    go_wp2
    go_ret
    exact ⟨rfl, rfl⟩
  · by_cases h2 : 16384 < v
    · rw [show sdV v = 3 from by unfold sdV; rw [if_neg h1, if_pos h2]]
      go_enter Tryd.func32, Tryd.ntmps32
      go_wp2
      go_ret
      exact ⟨rfl, rfl⟩
    · rw [show sdV v = 0 from by unfold sdV; rw [if_neg h1, if_neg h2]]
      go_enter Tryd.func32, Tryd.ntmps32
      go_wp2
      go_ret
      exact ⟨rfl, rfl⟩
/-- Fifteen cells: numbers, and a truth. -/
def MVis (MV : Array Value) : Prop := ∃ (z0 z1 z2 : Int) (z3 : Bool) (z4 z5 z6 z7 z8 z9 z10 z11 z12 z13 z14 : Int), MV = #[.int .i64 z0, .int .i64 z1, .int .i64 z2, .bool z3, .int .i64 z4, .int .i64 z5, .int .i64 z6, .int .i64 z7, .int .i64 z8, .int .i64 z9, .int .i64 z10, .int .i64 z11, .int .i64 z12, .int .i64 z13, .int .i64 z14]
def dp6 (d : Int) : Bool := decide (d = 1 ∨ d = 4 ∨ d = 8 ∨ d = 16 ∨ d = 24 ∨ d = 32)
theorem rdepth_calls (n : Int) (W : World) : Calls Tryd.prog 33 #[.int .i64 n] W fun e w' => e = .returned (.bool (dp6 n)) ∧ W = w' := by
  by_cases h : n = 1 ∨ n = 4 ∨ n = 8 ∨ n = 16 ∨ n = 24 ∨ n = 32
  · rw [show dp6 n = true from decide_eq_true h]
    obtain rfl | rfl | rfl | rfl | rfl | rfl := h
    all_goals
      go_enter Tryd.func33, Tryd.ntmps33
      go_wp2
      go_ret
      exact ⟨rfl, rfl⟩
  · rw [show dp6 n = false from decide_eq_false h]
    have h1 : (n == 1) = false := by rw [beq_eq_false_iff_ne]; omega
    have h4 : (n == 4) = false := by rw [beq_eq_false_iff_ne]; omega
    have h8 : (n == 8) = false := by rw [beq_eq_false_iff_ne]; omega
    have h16 : (n == 16) = false := by rw [beq_eq_false_iff_ne]; omega
    have h24 : (n == 24) = false := by rw [beq_eq_false_iff_ne]; omega
    have h32 : (n == 32) = false := by rw [beq_eq_false_iff_ne]; omega
    clear h
    go_enter Tryd.func33, Tryd.ntmps33
    go_wp2
    go_ret
    exact ⟨rfl, rfl⟩

/-- The result's block, not written yet; the head's block. -/
structure DI (W : World) (hb : Nat) (B : Array Value) (w : World) : Prop where
  res : w.heap[W.heap.size]? = some (.cells #[.int .i64 0, .int .i64 0, .int .i64 0, .bool false, .int .i64 0, .int .i64 0, .int .i64 0, .int .i64 0, .int .i64 0, .int .i64 0, .int .i64 0, .int .i64 0, .int .i64 0, .int .i64 0, .int .i64 0] 37 (0, 0))
  hd : w.heap[hb]? = some (.cells B 37 (0, 0))
  gb : W.grownBy w none
  lt : W.heap.size < hb
/-- What is told of a head's numbers, with whose K-th test something is wrong (10: nothing is). -/
structure DV (fr n K : Nat) (X Y P D M C : Int) (RV MV : Array Value) : Prop where
  f : FstB (ckD n X Y P D M C) K
  n12 : n ≠ 12
  nle : n ≤ 200
  fle : fr ≤ 4611686018427387904
  m0 : 0 ≤ M
  c0 : 0 ≤ C
  d0 : 0 ≤ D
  rv : RV = if K < 10 then badA (kdD K) (fr + plD n K) else MV
theorem DV.bad {fr n K : Nat} {X Y P D M C : Int} {RV MV : Array Value} (h : DV fr n K X Y P D M C RV MV) (k : Nat) (hk : k < 10) (e : K = k) : RV = badA (kdD k) (fr + plD n k) := by
  rw [h.rv, e, if_pos hk]
theorem dp_6 {d : Int} {n : Nat} (hn : n ≠ 12) : dpH d n = dp6 d := by
  unfold dpH dp6
  rw [Bool.eq_iff_iff, decide_eq_true_iff, decide_eq_true_iff]
  omega

end Go.Proofs.YtikjfmpdfeaooaaDoor.Dh

/- The document's answer of a head of twelve bytes (written by wip/gen/di4.py). -/
namespace Go.Proofs.YtikjfmpdfeaooaaDoor.Dh
open Go.ChangeShapes Go.WideShapes Go.ChangeAt Go.RowKit
open Go.Proofs.YtikjfmpdfeaooaaDoor.Le Go.Proofs.YtikjfmpdfeaooaaDoor.Sr Go.Proofs.YtikjfmpdfeaooaaDoor.Ma
set_option linter.unusedVariables false

/-- What a head of twelve bytes tells. -/
def shV (fr : Nat) (X Y P D : Int) : Array Value := if X ≤ 0 then badA 2 ((fr : Int) + 4) else if 16384 < X then badA 3 ((fr : Int) + 4) else if Y ≤ 0 then badA 2 ((fr : Int) + 6) else if 16384 < Y then badA 3 ((fr : Int) + 6) else if P ≠ 1 then badA 2 ((fr : Int) + 8) else if ¬ (D = 1 ∨ D = 4 ∨ D = 8 ∨ D = 24) then badA 3 ((fr : Int) + 10) else #[.int .i64 12, .int .i64 X, .int .i64 Y, .bool false, .int .i64 D, .int .i64 0, .int .i64 (clrC D 0), .int .i64 0, .int .i64 0, .int .i64 0, .int .i64 0, .int .i64 (fr : Nat), .int .i64 ((fr + 12 : Nat)), .int .i64 0, .int .i64 0]

end Go.Proofs.YtikjfmpdfeaooaaDoor.Dh
