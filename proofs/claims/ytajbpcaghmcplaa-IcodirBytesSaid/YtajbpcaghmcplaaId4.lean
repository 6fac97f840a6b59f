/- Layer 24: the code's Read, ahead of the entries (written by wip/gen/id4.py). -/
import Derived.Test.YtajbpcaghmcplaaId3
import Derived.Deep.Cut
namespace Go.Proofs.Ytajbpcaghmcplaa.Id
open Go.ChangeShapes Go.WideShapes Go.ChangeAt Go.RowKit
open Go.Proofs.Ytajbpcaghmcplaa.Le Go.Proofs.Ytajbpcaghmcplaa.Sr Go.Proofs.Ytajbpcaghmcplaa.Dh
set_option linter.unusedVariables false

set_option maxRecDepth 100000 in
set_option maxHeartbeats 4000000 in
theorem read_over (b l : Nat) (T : ByteArray) (p f : Nat) (x : St) (W : World) (hS : Sl b l T p f T.size x W) (hr : x.r = 0) (hst : x.s < x.st + 1) (n q : Nat) (hn : 1 ≤ n) (dv fv : Array Value) :
    Calls Try.prog 10 #[.pointer (some ⟨b, 0, none⟩)] W (RE b l T p f n q x dv fv W) := by
  have hblt := hS.so.lt
  have hllt := hS.led.lt
  have hbl := hS.so.bl
  have hpt := hS.so.pt
  have hbig := hS.so.big
  go_enter Try.func10, Try.ntmps10
  go_upto_region 1 with fail
  have I0 : Dj W b l _ := Dj.new
  unfold Z9 at I0
  have HS0 := Lib.hid (hS.grown (gb_trans (World.grownBy_alloc W (.cells #[.bool false, .int .i64 0, .int .i64 0, .int .i64 0, .int .i64 0, .int .i64 0, .int .i64 0, .int .i64 0, .int .i64 0] 35) none) (World.grownBy_alloc (W.alloc (.cells #[.bool false, .int .i64 0, .int .i64 0, .int .i64 0, .int .i64 0, .int .i64 0, .int .i64 0, .int .i64 0, .int .i64 0] 35)) (.cells #[.int .i64 0, .int .i64 0, .int .i64 0] 37) none)))
  generalize ((W.alloc (.cells #[.bool false, .int .i64 0, .int .i64 0, .int .i64 0, .int .i64 0, .int .i64 0, .int .i64 0, .int .i64 0, .int .i64 0] 35)).alloc (.cells #[.int .i64 0, .int .i64 0, .int .i64 0] 37)) = w0 at I0 HS0 ⊢
  have HI0 := Lib.hid I0
  clear hS I0
  go_wp2_with fail
  refine (at_calls b l T p f _ _ HS0.out.so).mono ?_
  rintro e w' ⟨rfl, rfl⟩
  go_wp2_with fail
  refine (HS0.out.over (by first | exact hr | rfl) hst 6).mono ?_
  rintro e w1 ⟨rfl, S9, t9⟩
  have HI1 := Lib.hid (HI0.out.turned hblt hllt t9)
  have HS1 := Lib.hid S9
  clear S9 t9 HI0 HS0
  go_wp2_with fail
  refine (HS1.out.fault4 4).mono ?_
  rintro e w2 ⟨rfl, g2⟩
  have I2 := HI1.out.gb hblt hllt g2
  have HS2 := Lib.hid (HS1.out.grown g2)
  clear g2 HI1 HS1
  have r0 := blk_cell I2.r 0
  have rz0 := blk_free I2.r 0
  have r1 := blk_cell I2.r 1
  have rz1 := blk_free I2.r 1
  have r2 := blk_cell I2.r 2
  have rz2 := blk_free I2.r 2
  have r3 := blk_cell I2.r 3
  have rz3 := blk_free I2.r 3
  have r4 := blk_cell I2.r 4
  have rz4 := blk_free I2.r 4
  have r5 := blk_cell I2.r 5
  have rz5 := blk_free I2.r 5
  have r6 := blk_cell I2.r 6
  have rz6 := blk_free I2.r 6
  have r7 := blk_cell I2.r 7
  have rz7 := blk_free I2.r 7
  have r8 := blk_cell I2.r 8
  have rz8 := blk_free I2.r 8
  have f0 := blk_cell I2.f 0
  have fz0 := blk_free I2.f 0
  have f1 := blk_cell I2.f 1
  have fz1 := blk_free I2.f 1
  have f2 := blk_cell I2.f 2
  have fz2 := blk_free I2.f 2
  simp only [Z9, List.getElem?_toArray, List.getElem?_cons_succ, List.getElem?_cons_zero] at r0 r1 r2 r3 r4 r5 r6 r7 r8 f0 f1 f2
  have lr := blk_lt I2.r
  have lf := blk_lt I2.f
  have HI2 := Lib.hid I2
  clear I2
  go_wp2
  refine bodyPost_ret (v := .tuple #[.agg #[.bool false, .int .i64 0, .int .i64 0, .int .i64 0, .int .i64 0, .int .i64 0, .int .i64 0, .int .i64 0, .int .i64 0], .agg #[.int .i64 4, .int .i64 4, .int .i64 (p : Nat)]]) (by simp only [results, Try.results10]; go_simp) rfl ?_
  exact .inr ⟨by omega, p, Nat.le_refl _, hpt, rfl, ((((((((((((HS2.out).st (by omega) (by omega)).st (by omega) (by omega)).st (by omega) (by omega)).st (by omega) (by omega)).st (by omega) (by omega)).st (by omega) (by omega)).st (by omega) (by omega)).st (by omega) (by omega)).st (by omega) (by omega)).st (by omega) (by omega)).st (by omega) (by omega)).st (by omega) (by omega), tn_own1 (tn_own1 (tn_own1 (tn_own1 (tn_own1 (tn_own1 (tn_own1 (tn_own1 (tn_own1 (tn_own1 (tn_own1 (tn_own1 (HI2.out.t) (by omega)) (by omega)) (by omega)) (by omega)) (by omega)) (by omega)) (by omega)) (by omega)) (by omega)) (by omega)) (by omega)) (by omega)⟩

set_option maxRecDepth 100000 in
set_option maxHeartbeats 4000000 in
theorem read_short (b l : Nat) (T : ByteArray) (p f : Nat) (x : St) (W : World) (hS : Sl b l T p f T.size x W) (hr : x.r = 0) (hst : x.st + 1 ≤ x.s) (hsh : T.size < p + 6) :
    Calls Try.prog 10 #[.pointer (some ⟨b, 0, none⟩)] W (RE b l T p f 1 p x Z9 #[.int .i64 1, .int .i64 4, .int .i64 (T.size : Nat)] W) := by
  have hblt := hS.so.lt
  have hllt := hS.led.lt
  have hbl := hS.so.bl
  have hpt := hS.so.pt
  have hbig := hS.so.big
  go_enter Try.func10, Try.ntmps10
  go_upto_region 1 with fail
  have I0 : Dj W b l _ := Dj.new
  unfold Z9 at I0
  have HS0 := Lib.hid (hS.grown (gb_trans (World.grownBy_alloc W (.cells #[.bool false, .int .i64 0, .int .i64 0, .int .i64 0, .int .i64 0, .int .i64 0, .int .i64 0, .int .i64 0, .int .i64 0] 35) none) (World.grownBy_alloc (W.alloc (.cells #[.bool false, .int .i64 0, .int .i64 0, .int .i64 0, .int .i64 0, .int .i64 0, .int .i64 0, .int .i64 0, .int .i64 0] 35)) (.cells #[.int .i64 0, .int .i64 0, .int .i64 0] 37) none)))
  generalize ((W.alloc (.cells #[.bool false, .int .i64 0, .int .i64 0, .int .i64 0, .int .i64 0, .int .i64 0, .int .i64 0, .int .i64 0, .int .i64 0] 35)).alloc (.cells #[.int .i64 0, .int .i64 0, .int .i64 0] 37)) = w0 at I0 HS0 ⊢
  have HI0 := Lib.hid I0
  clear hS I0
  go_wp2_with fail
  refine (at_calls b l T p f _ _ HS0.out.so).mono ?_
  rintro e w' ⟨rfl, rfl⟩
  go_wp2_with fail
  refine (HS0.out.short (by first | exact hr | rfl) hst 6 hsh).mono ?_
  rintro e w1 ⟨rfl, S9, t9⟩
  have HI1 := Lib.hid (HI0.out.turned hblt hllt t9)
  have HS1 := Lib.hid S9
  clear S9 t9 HI0 HS0
  go_wp2_with fail
  refine (HS1.out.fault1 hr 4).mono ?_
  rintro e w2 ⟨rfl, g2⟩
  have I2 := HI1.out.gb hblt hllt g2
  have HS2 := Lib.hid (HS1.out.grown g2)
  clear g2 HI1 HS1
  have r0 := blk_cell I2.r 0
  have rz0 := blk_free I2.r 0
  have r1 := blk_cell I2.r 1
  have rz1 := blk_free I2.r 1
  have r2 := blk_cell I2.r 2
  have rz2 := blk_free I2.r 2
  have r3 := blk_cell I2.r 3
  have rz3 := blk_free I2.r 3
  have r4 := blk_cell I2.r 4
  have rz4 := blk_free I2.r 4
  have r5 := blk_cell I2.r 5
  have rz5 := blk_free I2.r 5
  have r6 := blk_cell I2.r 6
  have rz6 := blk_free I2.r 6
  have r7 := blk_cell I2.r 7
  have rz7 := blk_free I2.r 7
  have r8 := blk_cell I2.r 8
  have rz8 := blk_free I2.r 8
  have f0 := blk_cell I2.f 0
  have fz0 := blk_free I2.f 0
  have f1 := blk_cell I2.f 1
  have fz1 := blk_free I2.f 1
  have f2 := blk_cell I2.f 2
  have fz2 := blk_free I2.f 2
  simp only [Z9, List.getElem?_toArray, List.getElem?_cons_succ, List.getElem?_cons_zero] at r0 r1 r2 r3 r4 r5 r6 r7 r8 f0 f1 f2
  have lr := blk_lt I2.r
  have lf := blk_lt I2.f
  have HI2 := Lib.hid I2
  clear I2
  go_wp2
  refine bodyPost_ret (v := .tuple #[.agg #[.bool false, .int .i64 0, .int .i64 0, .int .i64 0, .int .i64 0, .int .i64 0, .int .i64 0, .int .i64 0, .int .i64 0], .agg #[.int .i64 1, .int .i64 4, .int .i64 (T.size : Nat)]]) (by simp only [results, Try.results10]; go_simp) rfl ?_
  exact .inl ⟨hst, rfl, ((((((((((((HS2.out).st (by omega) (by omega)).st (by omega) (by omega)).st (by omega) (by omega)).st (by omega) (by omega)).st (by omega) (by omega)).st (by omega) (by omega)).st (by omega) (by omega)).st (by omega) (by omega)).st (by omega) (by omega)).st (by omega) (by omega)).st (by omega) (by omega)).st (by omega) (by omega), tn_own1 (tn_own1 (tn_own1 (tn_own1 (tn_own1 (tn_own1 (tn_own1 (tn_own1 (tn_own1 (tn_own1 (tn_own1 (tn_own1 (HI2.out.t) (by omega)) (by omega)) (by omega)) (by omega)) (by omega)) (by omega)) (by omega)) (by omega)) (by omega)) (by omega)) (by omega)) (by omega)⟩

set_option maxRecDepth 100000 in
set_option maxHeartbeats 4000000 in
theorem read_wrong (b l : Nat) (T : ByteArray) (p f : Nat) (x : St) (W : World) (hS : Sl b l T p f T.size x W) (hr : x.r = 0) (hst : x.st + 1 ≤ x.s) (hle : p + 6 ≤ T.size) (z : ByteArray) (hz : T.extract p (p + 6) = z) (hw : wrB z = true) :
    Calls Try.prog 10 #[.pointer (some ⟨b, 0, none⟩)] W (RE b l T p f 1 (p + 6) x Z9 #[.int .i64 2, .int .i64 4, .int .i64 ((p : Int) + wrP z)] W) := by
  have hblt := hS.so.lt
  have hllt := hS.led.lt
  have hbl := hS.so.bl
  have hpt := hS.so.pt
  have hbig := hS.so.big
  have hzs : z.size = 6 := by rw [← hz, ByteArray.size_extract]; omega
  have KW0 := fun u => wrong_calls z hzs u
  rw [hw] at KW0
  have hP : 0 ≤ wrP z ∧ wrP z ≤ 4 := by unfold wrP; split; omega; split; omega; split <;> omega
  obtain ⟨P, hPe⟩ : ∃ P, wrP z = P := ⟨_, rfl⟩
  rw [hPe] at KW0 hP ⊢
  obtain ⟨a, ha⟩ : ∃ a, (p : Int) + P = a := ⟨_, rfl⟩
  have haw : IntKind.i64.wrap a = a := IntWalk.i64_in _ (by omega)
  rw [ha]
  have KW := Lib.hid KW0
  have KM := Lib.hid (fun u => bad_calls a u)
  clear KW0 hPe
  go_enter Try.func10, Try.ntmps10
  go_upto_region 1 with fail
  have I0 : Dj W b l _ := Dj.new
  unfold Z9 at I0
  have HS0 := Lib.hid (hS.grown (gb_trans (World.grownBy_alloc W (.cells #[.bool false, .int .i64 0, .int .i64 0, .int .i64 0, .int .i64 0, .int .i64 0, .int .i64 0, .int .i64 0, .int .i64 0] 35) none) (World.grownBy_alloc (W.alloc (.cells #[.bool false, .int .i64 0, .int .i64 0, .int .i64 0, .int .i64 0, .int .i64 0, .int .i64 0, .int .i64 0, .int .i64 0] 35)) (.cells #[.int .i64 0, .int .i64 0, .int .i64 0] 37) none)))
  generalize ((W.alloc (.cells #[.bool false, .int .i64 0, .int .i64 0, .int .i64 0, .int .i64 0, .int .i64 0, .int .i64 0, .int .i64 0, .int .i64 0] 35)).alloc (.cells #[.int .i64 0, .int .i64 0, .int .i64 0] 37)) = w0 at I0 HS0 ⊢
  have HI0 := Lib.hid I0
  clear hS I0
  go_wp2_with fail
  refine (at_calls b l T p f _ _ HS0.out.so).mono ?_
  rintro e w' ⟨rfl, rfl⟩
  go_wp2_with fail
  refine (HS0.out.take (by first | exact hr | rfl) hst 6 hle).mono ?_
  rintro e w1 ⟨rfl, S9, t9⟩
  have HI1 := Lib.hid (HI0.out.turned hblt hllt t9)
  have HS1 := Lib.hid S9
  clear S9 t9 HI0 HS0
  rw [hz]
  clear hz hzs hP hw
  go_wp2_with fail
  refine (KW.out _).mono ?_
  rintro e w' ⟨rfl, rfl⟩
  go_wp2_with fail
  refine (KM.out _).mono ?_
  rintro e w2 ⟨rfl, g2⟩
  have I2 := HI1.out.gb hblt hllt g2
  have HS2 := Lib.hid (HS1.out.grown g2)
  clear g2 HI1 HS1
  have r0 := blk_cell I2.r 0
  have rz0 := blk_free I2.r 0
  have r1 := blk_cell I2.r 1
  have rz1 := blk_free I2.r 1
  have r2 := blk_cell I2.r 2
  have rz2 := blk_free I2.r 2
  have r3 := blk_cell I2.r 3
  have rz3 := blk_free I2.r 3
  have r4 := blk_cell I2.r 4
  have rz4 := blk_free I2.r 4
  have r5 := blk_cell I2.r 5
  have rz5 := blk_free I2.r 5
  have r6 := blk_cell I2.r 6
  have rz6 := blk_free I2.r 6
  have r7 := blk_cell I2.r 7
  have rz7 := blk_free I2.r 7
  have r8 := blk_cell I2.r 8
  have rz8 := blk_free I2.r 8
  have f0 := blk_cell I2.f 0
  have fz0 := blk_free I2.f 0
  have f1 := blk_cell I2.f 1
  have fz1 := blk_free I2.f 1
  have f2 := blk_cell I2.f 2
  have fz2 := blk_free I2.f 2
  simp only [Z9, List.getElem?_toArray, List.getElem?_cons_succ, List.getElem?_cons_zero] at r0 r1 r2 r3 r4 r5 r6 r7 r8 f0 f1 f2
  have lr := blk_lt I2.r
  have lf := blk_lt I2.f
  have HI2 := Lib.hid I2
  clear I2
  go_wp2
  refine bodyPost_ret (v := .tuple #[.agg #[.bool false, .int .i64 0, .int .i64 0, .int .i64 0, .int .i64 0, .int .i64 0, .int .i64 0, .int .i64 0, .int .i64 0], .agg #[.int .i64 2, .int .i64 4, .int .i64 a]]) (by simp only [results, Try.results10]; go_simp) rfl ?_
  exact .inl ⟨hst, rfl, ((((((((((((HS2.out).st (by omega) (by omega)).st (by omega) (by omega)).st (by omega) (by omega)).st (by omega) (by omega)).st (by omega) (by omega)).st (by omega) (by omega)).st (by omega) (by omega)).st (by omega) (by omega)).st (by omega) (by omega)).st (by omega) (by omega)).st (by omega) (by omega)).st (by omega) (by omega), tn_own1 (tn_own1 (tn_own1 (tn_own1 (tn_own1 (tn_own1 (tn_own1 (tn_own1 (tn_own1 (tn_own1 (tn_own1 (tn_own1 (HI2.out.t) (by omega)) (by omega)) (by omega)) (by omega)) (by omega)) (by omega)) (by omega)) (by omega)) (by omega)) (by omega)) (by omega)) (by omega)⟩

end Go.Proofs.Ytajbpcaghmcplaa.Id
