/- Package pnmhead: the two bytes that tell the kind. -/
import Derived.Test.YtfhcefglefkakaaGreatDoorPnh1
import Derived.Test.YtfhcefglefkakaaGreatDoorPnh2
import Derived.Deep.RegionWith
namespace Go.Proofs.YtfhcefglefkakaaGreatDoor.Ph
open Go.ChangeShapes Go.WideShapes Go.ChangeAt Go.RowKit
open Go.Proofs.YtfhcefglefkakaaGreatDoor.Le Go.Proofs.YtfhcefglefkakaaGreatDoor.Sr Go.Proofs.YtfhcefglefkakaaGreatDoor.Tk
set_option linter.unusedVariables false

theorem kind1_calls (b : Nat) (W : World) : Calls Tryz.prog 115 #[.int .i64 b] W fun e w' => e = .returned (.bool ((b : Int) == 80)) ∧ W = w' := by
  go_enter Tryz.func115, Tryz.ntmps115
  go_wp2
  go_ret
  exact ⟨rfl, rfl⟩
theorem kind2_calls (b : Nat) (W : World) (hb : b < 256) : Calls Tryz.prog 116 #[.int .i64 b] W fun e w' => e = .returned (.bool (rgB 1 6 ((b : Int) - 48))) ∧ W = w' := by
  have KI := Lib.hid (fun u => isKind_calls ((b : Int) - 48) u)
  go_enter Tryz.func116, Tryz.ntmps116
  go_wp2_with fail
  refine (KI.out _).mono ?_
  rintro e w' ⟨rfl, rfl⟩
  go_wp2
  go_ret
  exact ⟨rfl, rfl⟩
theorem pfault_calls (x y : Int) (W : World) : Calls Tryz.prog 120 #[.int .i64 x, .int .i64 y] W fun e w' => e = .returned (.agg #[.int .i64 x, .int .i64 3, .int .i64 y]) ∧ W.grownBy w' none := by
  go_enter Tryz.func120, Tryz.ntmps120
  go_wp2
  refine bodyPost_ret (v := .agg #[.int .i64 x, .int .i64 3, .int .i64 y]) (by simp only [results, Tryz.results120]; go_simp) rfl ⟨rfl, World.grownBy_alloc _ _ _⟩

/-- A byte, and a fault. -/
def bfT (v k f a : Int) : Value := .tuple #[.int .i64 v, .agg #[.int .i64 k, .int .i64 f, .int .i64 a]]

theorem byte_yes1 (c l : Nat) (s : ByteArray) (p : Nat) (x : St) (W : World) (h : Rd c l s p x W) (hr : x.r = 0) (hk : x.st + 1 ≤ x.s) (hp : p < s.size)
    (KM : ∀ u, Calls Tryz.prog 115 #[.int .i64 (bt s p)] u fun e w' => e = .returned (.bool true) ∧ u = w') :
    Calls Tryz.prog 114 #[.pointer (some ⟨c, 0, none⟩), .func (.func 115) #[] #[]] W fun e w' =>
      e = .returned (bfT (bt s p) 0 0 0) ∧ Rd c l s (p + 1) (stp x 1) w' ∧ Tn W w' [c, l] := by
  have hcw := h.clt
  have hlw := h.llt
  have hF0 := Fl.new W
  have hT0 : Tn W (W.alloc (.cells #[.int .i64 0, .int .i64 0, .int .i64 0] 36)) [c, l] := Tn.gb (World.grownBy_alloc _ _ none) (by simp)
  have KU := u8_byte c l s p x _ (h.grown (World.grownBy_alloc W (.cells #[.int .i64 0, .int .i64 0, .int .i64 0] 36) none)) hr hk hp
  obtain ⟨y, hy⟩ : ∃ y, bt s p = y := ⟨_, rfl⟩
  rw [hy] at KU KM ⊢
  have KU := Lib.hid KU
  have KM := Lib.hid KM
  have HF0 := Lib.hid hF0
  have HT0 := Lib.hid hT0
  obtain ⟨r, hrw⟩ : ∃ r, W.heap.size = r := ⟨_, rfl⟩
  have hrc : r ≠ c := by omega
  have hrl : r ≠ l := by omega
  have HRW := Lib.hid hrw
  have HNI : r ∉ [c, l] := by simp [hrc, hrl]
  have HC := Lib.hid hrc
  have HL := Lib.hid hrl
  clear h hr hF0 hT0 hcw hlw hrc hrl hy
  go_enter Tryz.func114, Tryz.ntmps114
  go_wp2_with fail
  rw [HRW.out] at HF0
  refine KU.out.mono ?_
  rintro e w1 ⟨rfl, R1, T1⟩
  have F9 : Fl r 0 0 0 w1 := HF0.out.turned T1 HNI
  have q0 := F9.c0
  have q1 := F9.c1
  have q2 := F9.c2
  have f0 := F9.free 0
  have f1 := F9.free 1
  have f2 := F9.free 2
  have HR9 := Lib.hid R1
  have HT9 := Lib.hid (HT0.out.trans T1)
  clear R1 T1 KU F9 hrw
  go_wp2_with fail
  refine (KM.out _).mono ?_
  rintro e w' ⟨rfl, rfl⟩
  go_wp2
  exact bodyPost_ret (v := bfT y 0 0 0) (by simp only [results, Tryz.results114, bfT]; go_simp) rfl ⟨rfl, HR9.out.st3 HC.out HL.out, Tn.own3 HT9.out HRW.out⟩

theorem byte_yes2 (c l : Nat) (s : ByteArray) (p : Nat) (x : St) (W : World) (h : Rd c l s p x W) (hr : x.r = 0) (hk : x.st + 1 ≤ x.s) (hp : p < s.size)
    (KM : ∀ u, Calls Tryz.prog 116 #[.int .i64 (bt s p)] u fun e w' => e = .returned (.bool true) ∧ u = w') :
    Calls Tryz.prog 114 #[.pointer (some ⟨c, 0, none⟩), .func (.func 116) #[] #[]] W fun e w' =>
      e = .returned (bfT (bt s p) 0 0 0) ∧ Rd c l s (p + 1) (stp x 1) w' ∧ Tn W w' [c, l] := by
  have hcw := h.clt
  have hlw := h.llt
  have hF0 := Fl.new W
  have hT0 : Tn W (W.alloc (.cells #[.int .i64 0, .int .i64 0, .int .i64 0] 36)) [c, l] := Tn.gb (World.grownBy_alloc _ _ none) (by simp)
  have KU := u8_byte c l s p x _ (h.grown (World.grownBy_alloc W (.cells #[.int .i64 0, .int .i64 0, .int .i64 0] 36) none)) hr hk hp
  obtain ⟨y, hy⟩ : ∃ y, bt s p = y := ⟨_, rfl⟩
  rw [hy] at KU KM ⊢
  have KU := Lib.hid KU
  have KM := Lib.hid KM
  have HF0 := Lib.hid hF0
  have HT0 := Lib.hid hT0
  obtain ⟨r, hrw⟩ : ∃ r, W.heap.size = r := ⟨_, rfl⟩
  have hrc : r ≠ c := by omega
  have hrl : r ≠ l := by omega
  have HRW := Lib.hid hrw
  have HNI : r ∉ [c, l] := by simp [hrc, hrl]
  have HC := Lib.hid hrc
  have HL := Lib.hid hrl
  clear h hr hF0 hT0 hcw hlw hrc hrl hy
  go_enter Tryz.func114, Tryz.ntmps114
  go_wp2_with fail
  rw [HRW.out] at HF0
  refine KU.out.mono ?_
  rintro e w1 ⟨rfl, R1, T1⟩
  have F9 : Fl r 0 0 0 w1 := HF0.out.turned T1 HNI
  have q0 := F9.c0
  have q1 := F9.c1
  have q2 := F9.c2
  have f0 := F9.free 0
  have f1 := F9.free 1
  have f2 := F9.free 2
  have HR9 := Lib.hid R1
  have HT9 := Lib.hid (HT0.out.trans T1)
  clear R1 T1 KU F9 hrw
  go_wp2_with fail
  refine (KM.out _).mono ?_
  rintro e w' ⟨rfl, rfl⟩
  go_wp2
  exact bodyPost_ret (v := bfT y 0 0 0) (by simp only [results, Tryz.results114, bfT]; go_simp) rfl ⟨rfl, HR9.out.st3 HC.out HL.out, Tn.own3 HT9.out HRW.out⟩

theorem byte_bad1 (c l : Nat) (s : ByteArray) (p : Nat) (x : St) (W : World) (h : Rd c l s p x W) (hr : x.r = 0) (hk : x.st + 1 ≤ x.s) (hp : p < s.size)
    (KM : ∀ u, Calls Tryz.prog 115 #[.int .i64 (bt s p)] u fun e w' => e = .returned (.bool false) ∧ u = w') :
    Calls Tryz.prog 114 #[.pointer (some ⟨c, 0, none⟩), .func (.func 115) #[] #[]] W fun e w' =>
      e = .returned (bfT 0 2 3 p) ∧ Rd c l s (p + 1) (stp x 1) w' ∧ Tn W w' [c, l] := by
  have hcw := h.clt
  have hlw := h.llt
  have hbig := h.so.big
  have hF0 := Fl.new W
  have hT0 : Tn W (W.alloc (.cells #[.int .i64 0, .int .i64 0, .int .i64 0] 36)) [c, l] := Tn.gb (World.grownBy_alloc _ _ none) (by simp)
  have KU := u8_byte c l s p x _ (h.grown (World.grownBy_alloc W (.cells #[.int .i64 0, .int .i64 0, .int .i64 0] 36) none)) hr hk hp
  obtain ⟨y, hy⟩ : ∃ y, bt s p = y := ⟨_, rfl⟩
  rw [hy] at KU KM
  have KU := Lib.hid KU
  have KM := Lib.hid KM
  have HF0 := Lib.hid hF0
  have HT0 := Lib.hid hT0
  obtain ⟨r, hrw⟩ : ∃ r, W.heap.size = r := ⟨_, rfl⟩
  have hrc : r ≠ c := by omega
  have hrl : r ≠ l := by omega
  have HRW := Lib.hid hrw
  have HNI : r ∉ [c, l] := by simp [hrc, hrl]
  have HC := Lib.hid hrc
  have HL := Lib.hid hrl
  have hpe : (((p + 1 : Nat) : Int) - 1) = p := by omega
  clear h hr hF0 hT0 hcw hlw hrc hrl hy
  go_enter Tryz.func114, Tryz.ntmps114
  go_wp2_with fail
  rw [HRW.out] at HF0
  refine KU.out.mono ?_
  rintro e w1 ⟨rfl, R1, T1⟩
  have KA := Lib.hid (at_rd c l s (p + 1) _ w1 R1)
  have HR1 := Lib.hid R1
  have HT1 := Lib.hid (HT0.out.trans T1)
  have HF1 := Lib.hid (HF0.out.turned T1 HNI)
  clear R1 T1 KU hrw
  go_wp2_with fail
  refine (KM.out _).mono ?_
  rintro e w' ⟨rfl, rfl⟩
  go_wp2_with fail
  refine KA.out.mono ?_
  rintro e w' ⟨rfl, rfl⟩
  go_wp2_with fail
  refine (pfault_calls 2 p _).mono ?_
  rintro e w4 ⟨rfl, g4⟩
  have F9 : Fl r 0 0 0 w4 := HF1.out.turned (Tn.gb g4 (S := [c, l]) (by simp)) HNI
  have q0 := F9.c0
  have q1 := F9.c1
  have q2 := F9.c2
  have f0 := F9.free 0
  have f1 := F9.free 1
  have f2 := F9.free 2
  have HR9 := Lib.hid (HR1.out.grown g4)
  have HT9 := Lib.hid (HT1.out.trans (Tn.gb g4 (by simp)))
  clear g4 HT1 HF1 F9 HR1
  go_wp2
  exact bodyPost_ret (v := bfT 0 2 3 p) (by simp only [results, Tryz.results114, bfT]; go_simp) rfl ⟨rfl, HR9.out.st3 HC.out HL.out, Tn.own3 HT9.out HRW.out⟩

theorem byte_bad2 (c l : Nat) (s : ByteArray) (p : Nat) (x : St) (W : World) (h : Rd c l s p x W) (hr : x.r = 0) (hk : x.st + 1 ≤ x.s) (hp : p < s.size)
    (KM : ∀ u, Calls Tryz.prog 116 #[.int .i64 (bt s p)] u fun e w' => e = .returned (.bool false) ∧ u = w') :
    Calls Tryz.prog 114 #[.pointer (some ⟨c, 0, none⟩), .func (.func 116) #[] #[]] W fun e w' =>
      e = .returned (bfT 0 2 3 p) ∧ Rd c l s (p + 1) (stp x 1) w' ∧ Tn W w' [c, l] := by
  have hcw := h.clt
  have hlw := h.llt
  have hbig := h.so.big
  have hF0 := Fl.new W
  have hT0 : Tn W (W.alloc (.cells #[.int .i64 0, .int .i64 0, .int .i64 0] 36)) [c, l] := Tn.gb (World.grownBy_alloc _ _ none) (by simp)
  have KU := u8_byte c l s p x _ (h.grown (World.grownBy_alloc W (.cells #[.int .i64 0, .int .i64 0, .int .i64 0] 36) none)) hr hk hp
  obtain ⟨y, hy⟩ : ∃ y, bt s p = y := ⟨_, rfl⟩
  rw [hy] at KU KM
  have KU := Lib.hid KU
  have KM := Lib.hid KM
  have HF0 := Lib.hid hF0
  have HT0 := Lib.hid hT0
  obtain ⟨r, hrw⟩ : ∃ r, W.heap.size = r := ⟨_, rfl⟩
  have hrc : r ≠ c := by omega
  have hrl : r ≠ l := by omega
  have HRW := Lib.hid hrw
  have HNI : r ∉ [c, l] := by simp [hrc, hrl]
  have HC := Lib.hid hrc
  have HL := Lib.hid hrl
  have hpe : (((p + 1 : Nat) : Int) - 1) = p := by omega
  clear h hr hF0 hT0 hcw hlw hrc hrl hy
  go_enter Tryz.func114, Tryz.ntmps114
  go_wp2_with fail
  rw [HRW.out] at HF0
  refine KU.out.mono ?_
  rintro e w1 ⟨rfl, R1, T1⟩
  have KA := Lib.hid (at_rd c l s (p + 1) _ w1 R1)
  have HR1 := Lib.hid R1
  have HT1 := Lib.hid (HT0.out.trans T1)
  have HF1 := Lib.hid (HF0.out.turned T1 HNI)
  clear R1 T1 KU hrw
  go_wp2_with fail
  refine (KM.out _).mono ?_
  rintro e w' ⟨rfl, rfl⟩
  go_wp2_with fail
  refine KA.out.mono ?_
  rintro e w' ⟨rfl, rfl⟩
  go_wp2_with fail
  refine (pfault_calls 2 p _).mono ?_
  rintro e w4 ⟨rfl, g4⟩
  have F9 : Fl r 0 0 0 w4 := HF1.out.turned (Tn.gb g4 (S := [c, l]) (by simp)) HNI
  have q0 := F9.c0
  have q1 := F9.c1
  have q2 := F9.c2
  have f0 := F9.free 0
  have f1 := F9.free 1
  have f2 := F9.free 2
  have HR9 := Lib.hid (HR1.out.grown g4)
  have HT9 := Lib.hid (HT1.out.trans (Tn.gb g4 (by simp)))
  clear g4 HT1 HF1 F9 HR1
  go_wp2
  exact bodyPost_ret (v := bfT 0 2 3 p) (by simp only [results, Tryz.results114, bfT]; go_simp) rfl ⟨rfl, HR9.out.st3 HC.out HL.out, Tn.own3 HT9.out HRW.out⟩

theorem byte_end (F : FuncId) (c l : Nat) (s : ByteArray) (p : Nat) (x : St) (W : World) (h : Rd c l s p x W) (hr : x.r = 0) (hk : x.st + 1 ≤ x.s) (hp : s.size ≤ p) :
    Calls Tryz.prog 114 #[.pointer (some ⟨c, 0, none⟩), .func (.func F) #[] #[]] W fun e w' =>
      e = .returned (bfT 0 1 3 s.size) ∧ Rd c l s p (stp x 1) w' ∧ Tn W w' [c, l] := by
  have hcw := h.clt
  have hlw := h.llt
  have hF0 := Fl.new W
  have hT0 : Tn W (W.alloc (.cells #[.int .i64 0, .int .i64 0, .int .i64 0] 36)) [c, l] := Tn.gb (World.grownBy_alloc _ _ none) (by simp)
  have KU := Lib.hid (u8_over c l s p x _ (h.grown (World.grownBy_alloc W (.cells #[.int .i64 0, .int .i64 0, .int .i64 0] 36) none)) hr hk hp)
  have HF0 := Lib.hid hF0
  have HT0 := Lib.hid hT0
  have HR := Lib.hid hr
  obtain ⟨r, hrw⟩ : ∃ r, W.heap.size = r := ⟨_, rfl⟩
  have hrc : r ≠ c := by omega
  have hrl : r ≠ l := by omega
  have HRW := Lib.hid hrw
  have HNI : r ∉ [c, l] := by simp [hrc, hrl]
  have HC := Lib.hid hrc
  have HL := Lib.hid hrl
  clear h hr hF0 hT0 hcw hlw hrc hrl
  go_enter Tryz.func114, Tryz.ntmps114
  go_wp2_with fail
  rw [HRW.out] at HF0
  refine KU.out.mono ?_
  rintro e w1 ⟨rfl, R1, T1⟩
  have KF := Lib.hid (fault_end c l s p _ 3 w1 R1 HR.out)
  have HT1 := Lib.hid (HT0.out.trans T1)
  have HF1 := Lib.hid (HF0.out.turned T1 HNI)
  clear R1 T1 KU hrw
  go_wp2_with fail
  refine KF.out.mono ?_
  rintro e w4 ⟨rfl, R4, g4⟩
  have F9 : Fl r 0 0 0 w4 := HF1.out.turned (Tn.gb g4 (S := [c, l]) (by simp)) HNI
  have q0 := F9.c0
  have q1 := F9.c1
  have q2 := F9.c2
  have f0 := F9.free 0
  have f1 := F9.free 1
  have f2 := F9.free 2
  have HR9 := Lib.hid R4
  have HT9 := Lib.hid (HT1.out.trans (Tn.gb g4 (by simp)))
  clear R4 g4 KF HT1 HF1 F9
  go_wp2
  exact bodyPost_ret (v := bfT 0 1 3 s.size) (by simp only [results, Tryz.results114, bfT]; go_simp) rfl ⟨rfl, HR9.out.st3 HC.out HL.out, Tn.own3 HT9.out HRW.out⟩

theorem byte_spent (F : FuncId) (c l : Nat) (s : ByteArray) (p : Nat) (x : St) (W : World) (h : Rd c l s p x W) (hr : x.r = 0) (hk : x.s < x.st + 1) :
    Calls Tryz.prog 114 #[.pointer (some ⟨c, 0, none⟩), .func (.func F) #[] #[]] W fun e w' =>
      e = .returned (bfT 0 4 3 p) ∧ Rd c l s p (spent x) w' ∧ Tn W w' [c, l] := by
  have hcw := h.clt
  have hlw := h.llt
  have hF0 := Fl.new W
  have hT0 : Tn W (W.alloc (.cells #[.int .i64 0, .int .i64 0, .int .i64 0] 36)) [c, l] := Tn.gb (World.grownBy_alloc _ _ none) (by simp)
  have KU := Lib.hid (u8_spent c l s p x _ (h.grown (World.grownBy_alloc W (.cells #[.int .i64 0, .int .i64 0, .int .i64 0] 36) none)) hr hk)
  have HF0 := Lib.hid hF0
  have HT0 := Lib.hid hT0
  obtain ⟨r, hrw⟩ : ∃ r, W.heap.size = r := ⟨_, rfl⟩
  have hrc : r ≠ c := by omega
  have hrl : r ≠ l := by omega
  have HRW := Lib.hid hrw
  have HNI : r ∉ [c, l] := by simp [hrc, hrl]
  have HC := Lib.hid hrc
  have HL := Lib.hid hrl
  clear h hr hF0 hT0 hcw hlw hrc hrl
  go_enter Tryz.func114, Tryz.ntmps114
  go_wp2_with fail
  rw [HRW.out] at HF0
  refine KU.out.mono ?_
  rintro e w1 ⟨rfl, R1, T1⟩
  have KF := Lib.hid (fault_spent c l s p _ 3 w1 R1)
  have HT1 := Lib.hid (HT0.out.trans T1)
  have HF1 := Lib.hid (HF0.out.turned T1 HNI)
  clear R1 T1 KU hrw
  go_wp2_with fail
  refine KF.out.mono ?_
  rintro e w4 ⟨rfl, R4, g4⟩
  have F9 : Fl r 0 0 0 w4 := HF1.out.turned (Tn.gb g4 (S := [c, l]) (by simp)) HNI
  have q0 := F9.c0
  have q1 := F9.c1
  have q2 := F9.c2
  have f0 := F9.free 0
  have f1 := F9.free 1
  have f2 := F9.free 2
  have HR9 := Lib.hid R4
  have HT9 := Lib.hid (HT1.out.trans (Tn.gb g4 (by simp)))
  clear R4 g4 KF HT1 HF1 F9
  go_wp2
  exact bodyPost_ret (v := bfT 0 4 3 p) (by simp only [results, Tryz.results114, bfT]; go_simp) rfl ⟨rfl, HR9.out.st3 HC.out HL.out, Tn.own3 HT9.out HRW.out⟩

theorem fmK_pos' {k : Nat} (h : k ≠ 0) : ((fmK k : Nat) : Int) = 3 := by
  unfold fmK
  rw [if_neg h]
  rfl
/-- A head, and a fault. -/
def rdT (z : Hd) : Value := .tuple #[.agg #[.int .i64 z.k, .int .i64 z.w, .int .i64 z.h, .int .i64 z.m, .int .i64 z.a], .agg #[.int .i64 z.f, .int .i64 (fmK z.f), .int .i64 z.p]]
def fdT (k f a : Int) : Value := .tuple #[.agg #[.int .i64 0, .int .i64 0, .int .i64 0, .int .i64 0, .int .i64 0], .agg #[.int .i64 k, .int .i64 f, .int .i64 a]]
/-- Behind Read. -/
def RP (W : World) (c l : Nat) (s : ByteArray) (x : St) (e : Ending) (w' : World) : Prop :=
  ∃ q, q ≤ s.size ∧ Tn W w' [c, l] ∧ ((e = .returned (rdT (readV s)) ∧ ((readV s).f = 0 → q = (readV s).a) ∧ Rd c l s q (stp x (readN s)) w') ∨ (x.s < x.st + (readN s : Int) ∧ e = .returned (fdT 4 3 q) ∧ Rd c l s q (spent x) w'))
/-- A fault that ends it. -/
def FP (W : World) (c l : Nat) (s : ByteArray) (x : St) (k f a : Int) (q : Nat) (y : St) : Prop :=
  k ≠ 0 ∧ ∀ u, Tn W u [c, l] → Rd c l s q y u → RP W c l s x (.returned (fdT k f a)) u
theorem fp_spent {W : World} {c l : Nat} {s : ByteArray} {x : St} {q : Nat} (hq : q ≤ s.size) (h : x.s < x.st + (readN s : Int)) : FP W c l s x 4 3 q q (spent x) :=
  ⟨by decide, fun u t R => ⟨q, hq, t, .inr ⟨h, rfl, R⟩⟩⟩
theorem fp_fault {W : World} {c l : Nat} {s : ByteArray} {x : St} {q k a n : Nat} (hq : q ≤ s.size) (hk : k ≠ 0) (h : readV s = ⟨0, 0, 0, 0, 0, k, a⟩) (hn : readN s = n) : FP W c l s x k 3 a q (stp x n) := by
  refine ⟨by omega, fun u t R => ⟨q, hq, t, .inl ⟨?_, ?_, ?_⟩⟩⟩
  · rw [h]
    simp only [rdT, fdT]
    rw [fmK_pos' hk]
    rfl
  · rw [h]
    exact fun h' => absurd h' hk
  · rw [hn]
    exact R

end Go.Proofs.YtfhcefglefkakaaGreatDoor.Ph
