/- What heads of two formats have in common: Read, by any ledger. -/
import Derived.Test.YtjdhlehpoclnjaaGreatSh2
import Derived.Test.YtjdhlehpoclnjaaGreatSrc5
namespace Go.Proofs.YtjdhlehpoclnjaaGreat.Sh
open Go.ChangeShapes Go.WideShapes Go.ChangeAt Go.RowKit
open Go.Proofs.YtjdhlehpoclnjaaGreat.Le Go.Proofs.YtjdhlehpoclnjaaGreat.Tk Go.Proofs.YtjdhlehpoclnjaaGreat.Sr
set_option linter.unusedVariables false

/-- The budget is the same. -/
structure Lm (x y : St) : Prop where
  w : y.w = x.w
  h : y.h = x.h
  b : y.b = x.b
  s : y.s = x.s
theorem Lm.refl (x : St) : Lm x x := ⟨rfl, rfl, rfl, rfl⟩
theorem Lm.trans {x y z : St} (h : Lm x y) (k : Lm y z) : Lm x z := ⟨k.w.trans h.w, k.h.trans h.h, k.b.trans h.b, k.s.trans h.s⟩
theorem lm_stp (x : St) (n : Nat) : Lm x (stp x n) := ⟨rfl, rfl, rfl, rfl⟩
theorem lm_spent (x : St) : Lm x (spent x) := ⟨rfl, rfl, rfl, rfl⟩
theorem stp_ok {x : St} (ok : x.Ok) (hr : x.r = 0) (hw : x.st + 1 ≤ x.s) : (stp x 1).Ok := by
  have h := ok.work 1
  rwa [work_one hr hw] at h
theorem spent_ok {x : St} (ok : x.Ok) (hr : x.r = 0) (hw : x.s < x.st + 1) : (spent x).Ok := by
  have h := ok.work 1
  rwa [work_none ok hr hw] at h

theorem rd_own {c l : Nat} {s : ByteArray} {p : Nat} {x : St} {w w' : World} {S : List Nat} (h : Rd c l s p x w) (t : Tn w w' S) (hc : c ∉ S) (hl : l ∉ S) : Rd c l s p x w' := ⟨h.so.turned t hc, h.led.turned t hl, h.ok⟩

section
variable {c l : Nat} {s : ByteArray} {p : Nat} {x : St} {w : World}
theorem take_y (h : Rd c l s p x w) (hr : x.r = 0) (hst : x.st + 1 ≤ x.s) (n : Nat) (hq : p + n ≤ s.size) :
    Calls Tryz.prog 88 #[.pointer (some ⟨c, 0, none⟩), .int .i64 (n : Nat)] w fun e w' => e = .returned (.tuple #[.string (s.extract p (p + n)), .bool true]) ∧ Rd c l s (p + n) (stp x 1) w' ∧ Tn w w' [c, l] := by
  have e := work_one hr hst
  have K := take_yes c l s p 0 s.size n x w h.so h.led h.ok (by unfold rdB canB; rw [e]; simp only [Bool.true_and, Bool.and_eq_true, decide_eq_true_eq]; omega)
  rw [e] at K
  exact K.mono (fun e w' ⟨h1, h2, h3⟩ => ⟨h1, ⟨h2.1, h2.2, stp_ok h.ok hr hst⟩, h3⟩)
theorem take_s (h : Rd c l s p x w) (hr : x.r = 0) (hst : x.st + 1 ≤ x.s) (n : Nat) (hq : s.size < p + n) :
    Calls Tryz.prog 88 #[.pointer (some ⟨c, 0, none⟩), .int .i64 (n : Nat)] w fun e w' => e = .returned (.tuple #[.string ⟨#[]⟩, .bool false]) ∧ Rd c l s p (stp x 1) w' ∧ Tn w w' [c, l] := by
  have e := work_one hr hst
  have K := take_no c l s p 0 s.size x (n : Int) w h.so h.led h.ok (by unfold rdB canB; rw [e]; simp only [Bool.true_and, Bool.and_eq_false_iff, decide_eq_false_iff_not]; omega)
  rw [e] at K
  exact K.mono (fun e w' ⟨h1, h2, h3⟩ => ⟨h1, ⟨h2.1, h2.2, stp_ok h.ok hr hst⟩, Tn.gb h3 (by simp)⟩)
theorem take_o (h : Rd c l s p x w) (hr : x.r = 0) (hst : x.s < x.st + 1) (n : Nat) :
    Calls Tryz.prog 88 #[.pointer (some ⟨c, 0, none⟩), .int .i64 (n : Nat)] w fun e w' => e = .returned (.tuple #[.string ⟨#[]⟩, .bool false]) ∧ Rd c l s p (spent x) w' ∧ Tn w w' [c, l] := by
  have e := work_none h.ok hr hst
  have K := take_no c l s p 0 s.size x (n : Int) w h.so h.led h.ok (by unfold rdB; rw [e]; rfl)
  rw [e] at K
  exact K.mono (fun e w' ⟨h1, h2, h3⟩ => ⟨h1, ⟨h2.1, h2.2, spent_ok h.ok hr hst⟩, Tn.gb h3 (by simp)⟩)
end
/-- A reading fails: at the text's end, or for want of a step; it is the one whose fault is k at j. -/
def NoR (c l : Nat) (s : ByteArray) (p n : Nat) (x : St) (y : St) (k j : Int) : Prop :=
  (s.size < p + n ∧ x.st + 1 ≤ x.s ∧ y = stp x 1 ∧ k = 1 ∧ j = s.size) ∨ (x.s < x.st + 1 ∧ y = spent x ∧ k = 4 ∧ j = p)
theorem nor_lm {c l : Nat} {s : ByteArray} {p n : Nat} {x y : St} {k j : Int} (h : NoR c l s p n x y k j) : Lm x y := by
  obtain ⟨_, _, rfl, _⟩ | ⟨_, rfl, _⟩ := h
  · exact lm_stp x 1
  · exact lm_spent x
/-- A reading that fails, with the fault that is told of it. -/
theorem take_n {c l : Nat} {s : ByteArray} {p : Nat} {x : St} {w : World} (h : Rd c l s p x w) (hr : x.r = 0) (n : Nat) (hn : s.size < p + n ∨ x.s < x.st + 1) :
    ∃ y k j, NoR c l s p n x y k j ∧ Calls Tryz.prog 88 #[.pointer (some ⟨c, 0, none⟩), .int .i64 (n : Nat)] w (fun e w' => e = .returned (.tuple #[.string ⟨#[]⟩, .bool false]) ∧ Rd c l s p y w' ∧ Tn w w' [c, l]) ∧
      (∀ (f : Int) (u : World), Rd c l s p y u → Calls Tryz.prog 89 #[.pointer (some ⟨c, 0, none⟩), .int .i64 f] u fun e w' => e = .returned (.agg #[.int .i64 k, .int .i64 f, .int .i64 j]) ∧ Rd c l s p y w' ∧ u.grownBy w' none) := by
  by_cases hst : x.st + 1 ≤ x.s
  · have hq : s.size < p + n := by omega
    exact ⟨stp x 1, 1, s.size, .inl ⟨hq, hst, rfl, rfl, rfl⟩, take_s h hr hst n hq, fun f u R => fault_end c l s p (stp x 1) f u R hr⟩
  · exact ⟨spent x, 4, p, .inr ⟨by omega, rfl, rfl, rfl⟩, take_o h hr (by omega) n, fun f u R => fault_spent c l s p x f u R⟩

/-- What comes of a head that is not read: the fault k at j. -/
def HNo (W : World) (c l : Nat) (s : ByteArray) (x : St) (F : Int) (k j : Int) (q : Nat) (y : St) (e : Ending) (w' : World) : Prop :=
  e = .returned (.tuple #[.int .i64 0, .int .i64 0, .string ⟨#[]⟩, .agg #[.int .i64 k, .int .i64 F, .int .i64 j]]) ∧ Rd c l s q y w' ∧ Tn W w' [c, l]

set_option maxRecDepth 100000 in
set_option maxHeartbeats 1000000 in
theorem read_no (c l : Nat) (s sg : ByteArray) (n : Nat) (F : Int) (x : St) (W : World) (R : Rd c l s 0 x W) (hr : x.r = 0) (hn : s.size < 0 + n ∨ x.s < x.st + 1) :
    ∃ y k j, NoR c l s 0 n x y k j ∧ Calls Tryz.prog 68 #[.pointer (some ⟨c, 0, none⟩), .string sg, .int .i64 (n : Nat), .int .i64 F] W (HNo W c l s x F k j 0 y) := by
  have R0 := R.grown (World.grownBy_alloc W (.cells #[.int .i64 0, .int .i64 0, .int .i64 0] 29) none)
  obtain ⟨y, k, j, hno, KT, KF⟩ := take_n R0 hr n hn
  refine ⟨y, k, j, hno, ?_⟩
  have hc := R.clt
  have hl := R.llt
  have F0 := Fl.new W
  have T0 : Tn W (W.alloc (.cells #[.int .i64 0, .int .i64 0, .int .i64 0] 29)) [c, l] := Tn.gb (World.grownBy_alloc W (.cells #[.int .i64 0, .int .i64 0, .int .i64 0] 29) none) (by simp)
  have KA := Lib.hid (at_rd c l s 0 x _ R0)
  have HF0 := Lib.hid F0
  have HT0 := Lib.hid T0
  have KT := Lib.hid KT
  have KF := Lib.hid KF
  clear hno R hr hn R0 F0 T0
  go_enter Tryz.func68, Tryz.ntmps68
  go_wp2_with fail
  generalize W.alloc (.cells #[.int .i64 0, .int .i64 0, .int .i64 0] 29) = w0 at KA KT HF0 HT0 ⊢
  refine KA.out.mono ?_
  rintro e w' ⟨rfl, rfl⟩
  go_wp2_with fail
  refine KT.out.mono ?_
  rintro e w1 ⟨rfl, R1, T1⟩
  have HF1 := Lib.hid (HF0.out.turned T1 (by simp; omega))
  have HT1 := Lib.hid (HT0.out.trans T1)
  have HKF := Lib.hid (KF.out F w1 R1)
  clear R1 T1 HF0 HT0 KT KA KF
  go_wp2_with fail
  refine HKF.out.mono ?_
  rintro e w2 ⟨rfl, R2, G2⟩
  have F2 := HF1.out.turned (Tn.gb G2 (S := [c, l]) (by simp)) (by simp; omega)
  have HT2 := Lib.hid (HT1.out.trans (Tn.gb G2 (by simp)))
  have q0 := F2.c0
  have q1 := F2.c1
  have q2 := F2.c2
  have qf0 := F2.free 0
  have qf1 := F2.free 1
  have qf2 := F2.free 2
  have HR2 := Lib.hid R2
  clear R2 G2 HF1 HT1 HKF F2
  go_wp2
  refine bodyPost_ret (v := .tuple #[.int .i64 0, .int .i64 0, .string ⟨#[]⟩, .agg #[.int .i64 k, .int .i64 F, .int .i64 j]]) (by simp only [results, Tryz.results68]; go_simp) rfl ?_
  have t6 : Tn w2 (((w2.setCell ⟨W.heap.size, 0, none⟩ (.int .i64 k)).setCell ⟨W.heap.size, 1, none⟩ (.int .i64 F)).setCell ⟨W.heap.size, 2, none⟩ (.int .i64 j)) [W.heap.size] := (((Tn.refl w2 [W.heap.size]).st (by simp)).st (by simp)).st (by simp)
  exact ⟨rfl, rd_own HR2.out t6 (by simp; omega) (by simp; omega), HT2.out.over t6 (by intro i hi; simp at hi; left; omega)⟩

end Go.Proofs.YtjdhlehpoclnjaaGreat.Sh
