/- What heads of two formats have in common: Read behind a step that is let. -/
import Derived.Test.YtjdhlehpoclnjaaGreatSh3
namespace Go.Proofs.YtjdhlehpoclnjaaGreat.Sh
open Go.ChangeShapes Go.WideShapes Go.ChangeAt Go.RowKit
open Go.Proofs.YtjdhlehpoclnjaaGreat.Le Go.Proofs.YtjdhlehpoclnjaaGreat.Tk Go.Proofs.YtjdhlehpoclnjaaGreat.Sr
set_option linter.unusedVariables false

theorem bt_ext (s : ByteArray) (n i : Nat) (hi : i < n) : bt (s.extract 0 n) i = bt s i := by
  unfold bt
  rw [Lib.extract_data, List.getD_eq_getElem?_getD, List.getD_eq_getElem?_getD, List.getElem?_take_of_lt (by omega), List.getElem?_drop, Nat.zero_add]
theorem be_ext (s : ByteArray) (n a : Nat) (h : n ≤ s.size) (hi : a + 4 ≤ n) : beV (s.extract 0 n) a = beV s a := by
  unfold beV
  rw [ByteArray.extract_extract]
  congr 2
  all_goals omega
theorem mk_ext (sg s : ByteArray) (n K : Nat) (h : sg.size ≤ n) (M : MK sg s K) : MK sg (s.extract 0 n) K :=
  ⟨M.le, fun j hj => by rw [bt_ext s n j (by have := M.le; omega)]; exact M.yes j hj, fun hk => by rw [bt_ext s n K (by omega)]; exact M.no hk⟩
theorem plS_le (m K w h : Nat) : plS m K w h ≤ m + 4 := by
  unfold plS
  split
  · omega
  · split
    · omega
    · split <;> omega

set_option maxRecDepth 100000 in
set_option maxHeartbeats 1000000 in
theorem read_bad (c l : Nat) (s sg : ByteArray) (n K kd pl : Nat) (F : Int) (x : St) (W : World) (R : Rd c l s 0 x W) (hr : x.r = 0) (hst : x.st + 1 ≤ x.s) (hn : n ≤ s.size) (hm : sg.size + 8 ≤ n) (h100 : n ≤ 100) (M : MK sg s K)
    (hkd : kdS sg.size K (beV s sg.size) (beV s (sg.size + 4)) = kd) (hpl : plS sg.size K (beV s sg.size) (beV s (sg.size + 4)) = pl) (hne : kd ≠ 0) :
    Calls Tryz.prog 68 #[.pointer (some ⟨c, 0, none⟩), .string sg, .int .i64 (n : Nat), .int .i64 F] W (HNo W c l s x F kd pl n (stp x 1)) := by
  have R0 := R.grown (World.grownBy_alloc W (.cells #[.int .i64 0, .int .i64 0, .int .i64 0] 29) none)
  have KT := take_y R0 hr hst n (by omega)
  rw [Nat.zero_add] at KT
  have hz : (s.extract 0 n).size = n := by rw [ByteArray.size_extract]; omega
  have KW := fun u => wrong_calls (s.extract 0 n) sg K (mk_ext sg s n K (by omega) M) (by omega) (by omega) u
  rw [be_ext s n _ hn (by omega), be_ext s n _ hn (by omega), hkd, hpl] at KW
  have hp : pl ≤ 1000 := by rw [← hpl]; have := plS_le sg.size K (beV s sg.size) (beV s (sg.size + 4)); omega
  have d0 : ((kd : Int) != 0) = true := by rw [bne_iff_ne]; omega
  have d0' : ¬ (kd : Int) = 0 := by omega
  obtain ⟨z, hzz⟩ : ∃ z, s.extract 0 n = z := ⟨_, rfl⟩
  rw [hzz] at KT KW
  have hc := R.clt
  have hl := R.llt
  have KA := Lib.hid (at_rd c l s 0 x _ R0)
  have HF0 := Lib.hid (Fl.new W)
  have HT0 := Lib.hid (show Tn W (W.alloc (.cells #[.int .i64 0, .int .i64 0, .int .i64 0] 29)) [c, l] from Tn.gb (World.grownBy_alloc W (.cells #[.int .i64 0, .int .i64 0, .int .i64 0] 29) none) (by simp))
  have KT := Lib.hid KT
  have KW := Lib.hid KW
  clear R hr hn R0 hkd hpl hne hst hm h100 M hz hzz
  go_enter Tryz.func68, Tryz.ntmps68
  go_wp2_with fail
  generalize W.alloc (.cells #[.int .i64 0, .int .i64 0, .int .i64 0] 29) = w0 at KA KT HF0 HT0 ⊢
  refine KA.out.mono ?_
  rintro e w' ⟨rfl, rfl⟩
  go_wp2_with fail
  refine KT.out.mono ?_
  rintro e w1 ⟨rfl, R1, T1⟩
  have HF1 := Lib.hid (HF0.out.turned T1 (by simp; omega))
  have HT1 := Lib.hid (HT0.out.trans T1)
  have HR1 := Lib.hid R1
  clear R1 T1 HF0 HT0 KT KA
  go_wp2_with fail
  refine (KW.out _).mono ?_
  rintro e w2 ⟨rfl, G2⟩
  have F2 := HF1.out.turned (Tn.gb G2 (S := [c, l]) (by simp)) (by simp; omega)
  have HT2 := Lib.hid (HT1.out.trans (Tn.gb G2 (by simp)))
  have q0 := F2.c0
  have q1 := F2.c1
  have q2 := F2.c2
  have qf0 := F2.free 0
  have qf1 := F2.free 1
  have qf2 := F2.free 2
  have HR2 := Lib.hid (HR1.out.grown G2)
  clear G2 HF1 HT1 HR1 F2
  go_wp2
  refine bodyPost_ret (v := .tuple #[.int .i64 0, .int .i64 0, .string ⟨#[]⟩, .agg #[.int .i64 kd, .int .i64 F, .int .i64 pl]]) (by simp only [results, Tryz.results68]; go_simp) rfl ?_
  have t6 : Tn w2 (((w2.setCell ⟨W.heap.size, 0, none⟩ (.int .i64 kd)).setCell ⟨W.heap.size, 1, none⟩ (.int .i64 F)).setCell ⟨W.heap.size, 2, none⟩ (.int .i64 pl)) [W.heap.size] := (((Tn.refl w2 [W.heap.size]).st (by simp)).st (by simp)).st (by simp)
  exact ⟨rfl, rd_own HR2.out t6 (by simp; omega) (by simp; omega), HT2.out.over t6 (by intro i hi; simp at hi; left; omega)⟩

set_option maxRecDepth 100000 in
set_option maxHeartbeats 1000000 in
theorem read_ok (c l : Nat) (s sg : ByteArray) (n K gw gh : Nat) (F : Int) (x : St) (W : World) (R : Rd c l s 0 x W) (hr : x.r = 0) (hst : x.st + 1 ≤ x.s) (hn : n ≤ s.size) (hm : sg.size + 8 ≤ n) (h100 : n ≤ 100) (M : MK sg s K)
    (hw : beV s sg.size = gw) (hh : beV s (sg.size + 4) = gh) (hne : kdS sg.size K gw gh = 0) :
    Calls Tryz.prog 68 #[.pointer (some ⟨c, 0, none⟩), .string sg, .int .i64 (n : Nat), .int .i64 F] W
      (fun e w' => e = .returned (.tuple #[.int .i64 gw, .int .i64 gh, .string (s.extract 0 n), .agg #[.int .i64 0, .int .i64 0, .int .i64 0]]) ∧ Rd c l s n (stp x 1) w' ∧ Tn W w' [c, l]) := by
  have R0 := R.grown (World.grownBy_alloc W (.cells #[.int .i64 0, .int .i64 0, .int .i64 0] 29) none)
  have KT := take_y R0 hr hst n (by omega)
  rw [Nat.zero_add] at KT
  have hz : (s.extract 0 n).size = n := by rw [ByteArray.size_extract]; omega
  have KW := fun u => wrong_calls (s.extract 0 n) sg K (mk_ext sg s n K (by omega) M) (by omega) (by omega) u
  have KS := fun u => sides_calls (s.extract 0 n) sg (by omega) u
  rw [be_ext s n _ hn (by omega), be_ext s n _ hn (by omega), hw, hh] at KS
  rw [be_ext s n _ hn (by omega), be_ext s n _ hn (by omega), hw, hh, hne] at KW
  obtain ⟨pl, hpl⟩ : ∃ z, plS sg.size K gw gh = z := ⟨_, rfl⟩
  rw [hpl] at KW
  obtain ⟨z, hzz⟩ : ∃ z, s.extract 0 n = z := ⟨_, rfl⟩
  rw [hzz] at KT KW KS ⊢
  have hc := R.clt
  have hl := R.llt
  have KA := Lib.hid (at_rd c l s 0 x _ R0)
  have HF0 := Lib.hid (Fl.new W)
  have HT0 := Lib.hid (show Tn W (W.alloc (.cells #[.int .i64 0, .int .i64 0, .int .i64 0] 29)) [c, l] from Tn.gb (World.grownBy_alloc W (.cells #[.int .i64 0, .int .i64 0, .int .i64 0] 29) none) (by simp))
  have KT := Lib.hid KT
  have KW := Lib.hid KW
  have KS := Lib.hid KS
  clear R hr hn R0 hw hh hpl hne hst hm h100 M hz hzz
  go_enter Tryz.func68, Tryz.ntmps68
  go_wp2_with fail
  generalize W.alloc (.cells #[.int .i64 0, .int .i64 0, .int .i64 0] 29) = w0 at KA KT HF0 HT0 ⊢
  refine KA.out.mono ?_
  rintro e w' ⟨rfl, rfl⟩
  go_wp2_with fail
  refine KT.out.mono ?_
  rintro e w1 ⟨rfl, R1, T1⟩
  have HF1 := Lib.hid (HF0.out.turned T1 (by simp; omega))
  have HT1 := Lib.hid (HT0.out.trans T1)
  have HR1 := Lib.hid R1
  clear R1 T1 HF0 HT0 KT KA
  go_wp2_with fail
  refine (KW.out _).mono ?_
  rintro e w2 ⟨rfl, G2⟩
  have HG2 := Lib.hid G2
  clear G2
  go_wp2_with fail
  refine (KS.out _).mono ?_
  rintro e w3 ⟨rfl, G3⟩
  have G2 := gb_trans HG2.out G3
  have F2 := HF1.out.turned (Tn.gb G2 (S := [c, l]) (by simp)) (by simp; omega)
  have HT2 := Lib.hid (HT1.out.trans (Tn.gb G2 (by simp)))
  have q0 := F2.c0
  have q1 := F2.c1
  have q2 := F2.c2
  have qf0 := F2.free 0
  have qf1 := F2.free 1
  have qf2 := F2.free 2
  have HR2 := Lib.hid (HR1.out.grown G2)
  clear G2 G3 HG2 HF1 HT1 HR1 F2
  go_wp2
  refine bodyPost_ret (v := .tuple #[.int .i64 gw, .int .i64 gh, .string z, .agg #[.int .i64 0, .int .i64 0, .int .i64 0]]) (by simp only [results, Tryz.results68]; go_simp) rfl ?_
  have t6 : Tn w3 (((w3.setCell ⟨W.heap.size, 0, none⟩ (.int .i64 0)).setCell ⟨W.heap.size, 1, none⟩ (.int .i64 0)).setCell ⟨W.heap.size, 2, none⟩ (.int .i64 0)) [W.heap.size] := (((Tn.refl w3 [W.heap.size]).st (by simp)).st (by simp)).st (by simp)
  exact ⟨rfl, rd_own HR2.out t6 (by simp; omega) (by simp; omega), HT2.out.over t6 (by intro i hi; simp at hi; left; omega)⟩

end Go.Proofs.YtjdhlehpoclnjaaGreat.Sh
