/- Package token: the first digit. -/
import Derived.Test.YtfhcefglefkakaaGreatDoorTok8
import Derived.Deep.RegionWith
namespace Go.Proofs.YtfhcefglefkakaaGreatDoor.Tk
open Go.ChangeShapes Go.WideShapes Go.ChangeAt Go.RowKit
open Go.Proofs.YtfhcefglefkakaaGreatDoor.Le Go.Proofs.YtfhcefglefkakaaGreatDoor.Sr
set_option linter.unusedVariables false

def fmK (k : Nat) : Nat := if k = 0 then 0 else 3
/-- What a function of the package answers: value, place, fault. -/
def gotT (g : Got) : Value := .tuple #[.int .i64 g.v, .int .i64 g.from_, .agg #[.int .i64 g.kind, .int .i64 (fmK g.kind), .int .i64 g.place]]
def noT (q : Nat) : Value := .tuple #[.int .i64 0, .int .i64 0, .agg #[.int .i64 4, .int .i64 3, .int .i64 q]]
/-- A digit of at most m. -/
def dgV (s : ByteArray) (k m : Nat) : Got :=
  if s.size ≤ overV s k then ⟨0, 0, 0, 1, s.size⟩
  else if digB (bt s (overV s k)) m = true then ⟨bt s (overV s k) - 48, overV s k, overV s k + 1, 0, 0⟩
  else ⟨0, 0, 0, 2, overV s k⟩
theorem dgV_none {s : ByteArray} {k m o : Nat} (ho : overV s k = o) (h : s.size ≤ o) : dgV s k m = ⟨0, 0, 0, 1, s.size⟩ := by
  unfold dgV
  rw [ho, if_pos h]
theorem dgV_bad {s : ByteArray} {k m o y : Nat} (ho : overV s k = o) (h : o < s.size) (hy : bt s o = y) (h1 : digB y m = false) : dgV s k m = ⟨0, 0, 0, 2, o⟩ := by
  unfold dgV
  rw [ho, if_neg (by omega), hy, if_neg (by rw [h1]; decide)]
theorem dgV_yes {s : ByteArray} {k m o y : Nat} (ho : overV s k = o) (h : o < s.size) (hy : bt s o = y) (h1 : digB y m = true) : dgV s k m = ⟨y - 48, o, o + 1, 0, 0⟩ := by
  unfold dgV
  rw [ho, if_neg (by omega), hy, if_pos h1]

/-- Behind a function of the package: N readings were wanted. -/
def GP (W : World) (c l : Nat) (s : ByteArray) (p : Nat) (x : St) (g : Got) (N : Nat) (e : Ending) (w' : World) : Prop :=
  ∃ q, p ≤ q ∧ q ≤ s.size ∧ Tn W w' [c, l] ∧ ((e = .returned (gotT g) ∧ (g.kind = 0 → q = g.next) ∧ Rd c l s q (stp x N) w') ∨ (x.s < x.st + (N : Int) ∧ e = .returned (noT q) ∧ Rd c l s q (spent x) w'))

theorem Rd.st3 {c l : Nat} {s : ByteArray} {p : Nat} {x : St} {w : World} {k : Nat} {v0 v1 v2 : Value} (h : Rd c l s p x w) (hc : k ≠ c) (hl : k ≠ l) : Rd c l s p x (((w.setCell ⟨k, 0, none⟩ v0).setCell ⟨k, 1, none⟩ v1).setCell ⟨k, 2, none⟩ v2) :=
  ((h.st hc.symm hl.symm).st hc.symm hl.symm).st hc.symm hl.symm
theorem Tn.own3 {a b : World} {S : List Nat} {k : Nat} {v0 v1 v2 : Value} (h : Tn a b S) (hk : a.heap.size = k) : Tn a (((b.setCell ⟨k, 0, none⟩ v0).setCell ⟨k, 1, none⟩ v1).setCell ⟨k, 2, none⟩ v2) S :=
  Tn.own1 (Tn.own1 (Tn.own1 h (by omega)) (by omega)) (by omega)

set_option maxRecDepth 100000 in
set_option maxHeartbeats 2000000 in
theorem first_calls (c l : Nat) (s : ByteArray) (p m : Nat) (x : St) (W : World) (h : Rd c l s p x W) (hr : x.r = 0) (hm : m ≤ 9) :
    Calls Tryz.prog 146 #[.pointer (some ⟨c, 0, none⟩), .int .i64 m] W (GP W c l s p x (dgV s p m) (ovN s p + 1)) := by
  obtain ⟨o, ho⟩ : ∃ o, overV s p = o := ⟨_, rfl⟩
  obtain ⟨N, hN⟩ : ∃ N, ovN s p = N := ⟨_, rfl⟩
  have hbig := h.so.big
  have hcw := h.clt
  have hlw := h.llt
  have hF0 := Fl.new W
  have hT0 : Tn W (W.alloc (.cells #[.int .i64 0, .int .i64 0, .int .i64 0] 36)) [c, l] := Tn.gb (World.grownBy_alloc _ _ none) (by simp)
  have KO := over_calls c l s p x _ (h.grown (World.grownBy_alloc W (.cells #[.int .i64 0, .int .i64 0, .int .i64 0] 36) none)) hr
  rw [ho, hN] at KO
  obtain ⟨g, hg⟩ : ∃ g, dgV s p m = g := ⟨_, rfl⟩
  rw [hg, hN]
  have HG := Lib.hid hg
  have KO := Lib.hid KO
  have HO := Lib.hid ho
  have HR := Lib.hid hr
  have HF0 := Lib.hid hF0
  have HT0 := Lib.hid hT0
  obtain ⟨r, hrw⟩ : ∃ r, W.heap.size = r := ⟨_, rfl⟩
  have hrc : r ≠ c := by omega
  have hrl : r ≠ l := by omega
  have HRW := Lib.hid hrw
  have HNI : r ∉ [c, l] := by simp [hrc, hrl]
  have HC := Lib.hid hrc
  have HL := Lib.hid hrl
  clear h ho hN hr hF0 hT0 hcw hlw hrc hrl hg
  go_enter Tryz.func146, Tryz.ntmps146
  go_wp2_with fail
  rw [HRW.out] at HF0
  refine KO.out.mono ?_
  rintro e w1 ⟨q, hpq, hqs, T1, ⟨rfl, rfl, R1⟩ | ⟨hno, rfl, R1⟩⟩
  · have F1 : Fl r 0 0 0 w1 := HF0.out.turned T1 HNI
    have q0 := F1.c0
    have q1 := F1.c1
    have q2 := F1.c2
    have f0 := F1.free 0
    have f1 := F1.free 1
    have f2 := F1.free 2
    have HF1 := Lib.hid (F1.set 0 0 0)
    have HT1 := Lib.hid (Tn.own3 (v0 := .int .i64 0) (v1 := .int .i64 0) (v2 := .int .i64 0) (HT0.out.trans T1) hrw)
    have HR1 := Lib.hid (R1.st3 (v0 := .int .i64 0) (v1 := .int .i64 0) (v2 := .int .i64 0) HC.out HL.out)
    clear R1 T1 F1 KO
    simp only [okF]
    clear hrw
    go_wp2_with fail
    generalize (((w1.setCell ⟨r, 0, none⟩ (.int .i64 0)).setCell ⟨r, 1, none⟩ (.int .i64 0)).setCell ⟨r, 2, none⟩ (.int .i64 0)) = w2 at HF1 HT1 HR1 ⊢
    clear q0 q1 q2 f0 f1 f2
    by_cases hk : x.s < x.st + (N : Int) + 1
    · refine (u8_spent c l s q _ w2 HR1.out HR.out hk).mono ?_
      rintro e w3 ⟨rfl, R3, t3⟩
      have KF := Lib.hid (fault_spent c l s q _ 3 w3 R3)
      have HT3 := Lib.hid (HT1.out.trans t3)
      have HF3 := Lib.hid (HF1.out.turned t3 HNI)
      have HK := Lib.hid hk
      clear R3 t3 HR1 HT1 HF1 hk
      go_wp2_with fail
      refine KF.out.mono ?_
      rintro e w4 ⟨rfl, R4, g4⟩
      have F9 : Fl r 0 0 0 w4 := HF3.out.turned (Tn.gb g4 (S := [c, l]) (by simp)) HNI
      have q0 := F9.c0
      have q1 := F9.c1
      have q2 := F9.c2
      have f0 := F9.free 0
      have f1 := F9.free 1
      have f2 := F9.free 2
      have HR9 := Lib.hid R4
      have HT9 := Lib.hid (HT3.out.trans (Tn.gb g4 (by simp)))
      clear R4 g4 KF HT3 HF3 F9
      go_wp2
      refine bodyPost_ret (v := noT q) (by simp only [results, Tryz.results146, noT]; go_simp) rfl ⟨q, hpq, hqs, Tn.own3 HT9.out HRW.out, .inr ⟨by have := HK.out; omega, rfl, HR9.out.st3 HC.out HL.out⟩⟩
    · have HK : x.st + (N : Int) + 1 ≤ x.s := by omega
      clear hk
      by_cases hqz : q < s.size
      · obtain ⟨y, hy⟩ : ∃ y, bt s q = y := ⟨_, rfl⟩
        have KU := u8_byte c l s q _ w2 HR1.out HR.out HK hqz
        have y256 : y < 256 := by rw [← hy]; exact bt_lt s q
        rw [hy] at KU
        refine KU.mono ?_
        rintro e w3 ⟨rfl, R3, t3⟩
        rw [stp_stp] at R3
        have KB := fun u => digit_calls y m u hm
        have HT3 := Lib.hid (HT1.out.trans t3)
        have HF3 := Lib.hid (HF1.out.turned t3 HNI)
        cases eB : digB y m
        · simp only [eB] at KB
          have KBh := Lib.hid KB
          have hg := HG.out.symm.trans (dgV_bad HO.out hqz hy eB)
          subst hg
          have KM := Lib.hid (malformed_calls c l s q _ w3 R3)
          clear R3 t3 HR1 HT1 HF1 KU KB HG HK hy
          go_wp2_with fail
          refine (KBh.out _).mono ?_
          rintro e w' ⟨rfl, rfl⟩
          go_wp2_with fail
          refine KM.out.mono ?_
          rintro e w4 ⟨rfl, R4, g4⟩
          have F9 : Fl r 0 0 0 w4 := HF3.out.turned (Tn.gb g4 (S := [c, l]) (by simp)) HNI
          have q0 := F9.c0
          have q1 := F9.c1
          have q2 := F9.c2
          have f0 := F9.free 0
          have f1 := F9.free 1
          have f2 := F9.free 2
          have HR9 := Lib.hid R4
          have HT9 := Lib.hid (HT3.out.trans (Tn.gb g4 (by simp)))
          clear R4 g4 KM HT3 HF3 F9
          go_wp2
          refine bodyPost_ret (v := gotT ⟨0, 0, 0, 2, q⟩) (by simp only [results, Tryz.results146, gotT]; go_simp; rfl) rfl ⟨q + 1, by omega, by omega, Tn.own3 HT9.out HRW.out, .inl ⟨rfl, (fun h => absurd (a := (2 : Nat) = 0) h (by decide)), HR9.out.st3 HC.out HL.out⟩⟩
        · simp only [eB] at KB
          have KBh := Lib.hid KB
          have hg := HG.out.symm.trans (dgV_yes HO.out hqz hy eB)
          subst hg
          have hd := (digB_iff y m).1 eB
          obtain ⟨d, rfl⟩ : ∃ d : Nat, y = d + 48 := ⟨y - 48, by omega⟩
          have hde : (((d + 48 : Nat) : Int) - 48) = d := by omega
          have hqe : (((q + 1 : Nat) : Int) - 1) = q := by omega
          have KA := Lib.hid (at_rd c l s (q + 1) _ w3 R3)
          have F9 : Fl r 0 0 0 w3 := HF3.out
          have q0 := F9.c0
          have q1 := F9.c1
          have q2 := F9.c2
          have f0 := F9.free 0
          have f1 := F9.free 1
          have f2 := F9.free 2
          have HR3 := Lib.hid R3
          clear R3 t3 HR1 HT1 HF1 KU KB HG HK hy HF3 F9 eB
          go_wp2_with fail
          refine (KBh.out _).mono ?_
          rintro e w' ⟨rfl, rfl⟩
          go_wp2_with fail
          refine KA.out.mono ?_
          rintro e w' ⟨rfl, rfl⟩
          go_wp2
          refine bodyPost_ret (v := gotT ⟨d, q, q + 1, 0, 0⟩) (by simp only [results, Tryz.results146, gotT]; go_simp; try rfl) rfl ⟨q + 1, by omega, by omega, Tn.own3 HT3.out HRW.out, .inl ⟨rfl, fun _ => rfl, HR3.out.st3 HC.out HL.out⟩⟩
      · have hqe : q = s.size := by omega
        have hg := HG.out.symm.trans (dgV_none HO.out (by omega))
        subst hg
        refine (u8_over c l s q _ w2 HR1.out HR.out HK (by omega)).mono ?_
        rintro e w3 ⟨rfl, R3, t3⟩
        rw [stp_stp] at R3
        have KF := Lib.hid (fault_end c l s q _ 3 w3 R3 HR.out)
        have HT3 := Lib.hid (HT1.out.trans t3)
        have HF3 := Lib.hid (HF1.out.turned t3 HNI)
        clear R3 t3 HR1 HT1 HF1 HG HK
        go_wp2_with fail
        refine KF.out.mono ?_
        rintro e w4 ⟨rfl, R4, g4⟩
        have F9 : Fl r 0 0 0 w4 := HF3.out.turned (Tn.gb g4 (S := [c, l]) (by simp)) HNI
        have q0 := F9.c0
        have q1 := F9.c1
        have q2 := F9.c2
        have f0 := F9.free 0
        have f1 := F9.free 1
        have f2 := F9.free 2
        have HR9 := Lib.hid R4
        have HT9 := Lib.hid (HT3.out.trans (Tn.gb g4 (by simp)))
        clear R4 g4 KF HT3 HF3 F9
        go_wp2
        refine bodyPost_ret (v := gotT ⟨0, 0, 0, 1, s.size⟩) (by simp only [results, Tryz.results146, gotT]; go_simp; try rfl) rfl ⟨q, hpq, hqs, Tn.own3 HT9.out HRW.out, .inl ⟨rfl, (fun h => absurd (a := (1 : Nat) = 0) h (by decide)), HR9.out.st3 HC.out HL.out⟩⟩
  · have F1 : Fl r 0 0 0 w1 := HF0.out.turned T1 HNI
    have q0 := F1.c0
    have q1 := F1.c1
    have q2 := F1.c2
    have f0 := F1.free 0
    have f1 := F1.free 1
    have f2 := F1.free 2
    have HF1 := Lib.hid (F1.set 4 3 q)
    have HT1 := Lib.hid (Tn.own3 (v0 := .int .i64 4) (v1 := .int .i64 3) (v2 := .int .i64 q) (HT0.out.trans T1) hrw)
    have HR1 := Lib.hid (R1.st3 (v0 := .int .i64 4) (v1 := .int .i64 3) (v2 := .int .i64 q) HC.out HL.out)
    have HNO := Lib.hid hno
    clear R1 T1 F1 KO hno
    simp only [noF]
    clear hrw
    go_wp2_with fail
    generalize (((w1.setCell ⟨r, 0, none⟩ (.int .i64 4)).setCell ⟨r, 1, none⟩ (.int .i64 3)).setCell ⟨r, 2, none⟩ (.int .i64 q)) = w2 at HF1 HT1 HR1 ⊢
    clear q0 q1 q2 f0 f1 f2
    have q0 := HF1.out.c0
    have q1 := HF1.out.c1
    have q2 := HF1.out.c2
    have f0 := HF1.out.free 0
    have f1 := HF1.out.free 1
    have f2 := HF1.out.free 2
    go_region
    go_wp2
    refine bodyPost_ret (v := noT q) (by simp only [results, Tryz.results146, noT]; go_simp) rfl ⟨q, hpq, hqs, (Tn.own3 HT1.out HRW.out).trans (Tn.drew _ _), .inr ⟨by have := HNO.out; omega, rfl, (HR1.out.st3 HC.out HL.out).grown (gb_drew _ _)⟩⟩

end Go.Proofs.YtfhcefglefkakaaGreatDoor.Tk
