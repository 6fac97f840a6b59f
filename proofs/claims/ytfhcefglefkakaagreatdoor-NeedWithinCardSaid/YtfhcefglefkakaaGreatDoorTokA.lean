/- Package token: a number. -/
import Derived.Test.YtfhcefglefkakaaGreatDoorTok9
namespace Go.Proofs.YtfhcefglefkakaaGreatDoor.Tk
open Go.ChangeShapes Go.WideShapes Go.ChangeAt Go.RowKit
open Go.Proofs.YtfhcefglefkakaaGreatDoor.Le Go.Proofs.YtfhcefglefkakaaGreatDoor.Sr
set_option linter.unusedVariables false

/-- How many readings a number takes. -/
def numN (s : ByteArray) (p : Nat) : Nat :=
  if s.size ≤ overV s p then overV s p - p + 1
  else if (Tk.numV s (overV s p) 0).2 = overV s p then overV s p - p + 2
  else (Tk.numV s (overV s p) 0).2 - p + 1 + (if (Tk.numV s (overV s p) 0).2 < s.size then 1 else 0)
/-- Value 0, place 0, a fault. -/
def ftT (k f a : Int) : Value := .tuple #[.int .i64 0, .int .i64 0, .agg #[.int .i64 k, .int .i64 f, .int .i64 a]]
theorem capN_small {d : Nat} (h : d ≤ 9) : capN d = d := by
  unfold capN
  rw [if_neg (by omega)]
theorem gotV_none' {s : ByteArray} {k f : Nat} (hf : overV s k = f) (h : s.size ≤ f) : gotV s k = ⟨0, 0, 0, 1, s.size⟩ := by
  unfold gotV
  rw [hf, if_pos h]
theorem gotV_bad' {s : ByteArray} {k f : Nat} (hf : overV s k = f) (h : f < s.size) (h1 : ¬ (48 ≤ bt s f ∧ bt s f ≤ 57)) : gotV s k = ⟨0, 0, 0, 2, f⟩ := by
  unfold gotV
  rw [hf, if_neg (by omega), numV_stop (fun h' => h1 h'.2), if_pos rfl]
theorem gotV_yes' {s : ByteArray} {k f v j : Nat} (hf : overV s k = f) (h : f < s.size) (h1 : Tk.numV s f 0 = (v, j)) (h2 : f < j) : gotV s k = ⟨v, f, j, 0, 0⟩ := by
  unfold gotV
  rw [hf, if_neg (by omega), h1, if_neg (by show ¬ j = f; omega)]
theorem numN_none {s : ByteArray} {p o : Nat} (ho : overV s p = o) (h : s.size ≤ o) : numN s p = ovN s p + 1 := by
  unfold numN ovN
  rw [ho, if_pos h, if_neg (by omega)]
theorem numN_bad {s : ByteArray} {p o : Nat} (ho : overV s p = o) (h : o < s.size) (h1 : ¬ (48 ≤ bt s o ∧ bt s o ≤ 57)) : numN s p = ovN s p + 1 := by
  unfold numN ovN
  rw [ho, if_neg (by omega), numV_stop (fun h' => h1 h'.2), if_pos rfl, if_pos h]
theorem numN_yes {s : ByteArray} {p o v j : Nat} (ho : overV s p = o) (h : o < s.size) (h1 : Tk.numV s o 0 = (v, j)) (h2 : o < j) : numN s p = j - p + 1 + (if j < s.size then 1 else 0) := by
  unfold numN
  rw [ho, if_neg (by omega), h1, if_neg (by show ¬ j = o; omega)]

/-- The first digit, as a number wants it: a fault, which ends it, or the digit. -/
theorem first9_calls (c l : Nat) (s : ByteArray) (p : Nat) (x : St) (W0 W : World) (h : Rd c l s p x W) (hr : x.r = 0) :
    Calls Tryz.prog 146 #[.pointer (some ⟨c, 0, none⟩), .int .i64 9] W fun e w' =>
      ∃ q, p ≤ q ∧ q ≤ s.size ∧ Tn W w' [c, l] ∧
        ((∃ (k f a : Int) (y : St), k ≠ 0 ∧ e = .returned (ftT k f a) ∧ Rd c l s q y w' ∧ (∀ u, Tn W0 u [c, l] → Rd c l s q y u → GP W0 c l s p x (gotV s p) (numN s p) (.returned (ftT k f a)) u)) ∨
         (∃ o d : Nat, overV s p = o ∧ p ≤ o ∧ o < s.size ∧ d ≤ 9 ∧ Tk.numV s o 0 = Tk.numV s (o + 1) d ∧ e = .returned (.tuple #[.int .i64 d, .int .i64 o, .agg #[.int .i64 0, .int .i64 0, .int .i64 0]]) ∧ Rd c l s (o + 1) (stp x (o + 1 - p + 1)) w')) := by
  refine (first_calls c l s p 9 x W h hr (by decide)).mono ?_
  rintro e w' ⟨q, hpq, hqs, t, h1⟩
  refine ⟨q, hpq, hqs, t, ?_⟩
  obtain ⟨o, ho⟩ : ∃ o, overV s p = o := ⟨_, rfl⟩
  have hpo : p ≤ o := by rw [← ho]; exact overV_ge s _ p rfl
  rcases h1 with ⟨he, hn, R⟩ | ⟨hno, he, R⟩
  · by_cases hz : s.size ≤ o
    · rw [dgV_none ho hz] at he hn
      refine .inl ⟨1, 3, s.size, _, by decide, he, R, fun u t' R' => ⟨q, hpq, hqs, t', .inl ⟨?_, ?_, ?_⟩⟩⟩
      · rw [gotV_none' ho hz]
        rfl
      · rw [gotV_none' ho hz]
        exact fun h => absurd (a := (1 : Nat) = 0) h (by decide)
      · rw [numN_none ho hz]
        exact R'
    · by_cases hd : digB (bt s o) 9 = true
      · have hd' := (digB_iff _ _).1 hd
        rw [dgV_yes ho (by omega) rfl hd] at he hn
        have hq : q = o + 1 := hn rfl
        subst hq
        refine .inr ⟨o, bt s o - 48, ho, hpo, by omega, by omega, ?_, he, ?_⟩
        · rw [numV_on (by omega) hd'.1 hd'.2, show 10 * 0 + bt s o - 48 = bt s o - 48 from by omega, capN_small (by omega)]
        · have hN : ovN s p = o - p + 1 := by
            unfold ovN
            rw [ho, if_pos (by omega)]
          rw [hN] at R
          rw [show o + 1 - p + 1 = o - p + 1 + 1 from by omega]
          exact R
      · have hd' : ¬ (48 ≤ bt s o ∧ bt s o ≤ 57) := fun h' => hd ((digB_iff _ _).2 h')
        rw [dgV_bad ho (by omega) rfl (by simpa using hd)] at he hn
        refine .inl ⟨2, 3, o, _, by decide, he, R, fun u t' R' => ⟨q, hpq, hqs, t', .inl ⟨?_, ?_, ?_⟩⟩⟩
        · rw [gotV_bad' ho (by omega) hd']
          rfl
        · rw [gotV_bad' ho (by omega) hd']
          exact fun h => absurd (a := (2 : Nat) = 0) h (by decide)
        · rw [numN_bad ho (by omega) hd']
          exact R'
  · refine .inl ⟨4, 3, q, _, by decide, he, R, fun u t' R' => ⟨q, hpq, hqs, t', .inr ⟨?_, rfl, R'⟩⟩⟩
    have hge : ovN s p + 1 ≤ numN s p := by
      by_cases hz : s.size ≤ o
      · rw [numN_none ho hz]
        exact Nat.le_refl _
      · by_cases hd : 48 ≤ bt s o ∧ bt s o ≤ 57
        · have h3 := numV_on (v := 0) (by omega : o < s.size) hd.1 hd.2
          have h4 := numV_ge s _ (o + 1) (capN (10 * 0 + bt s o - 48)) rfl
          rw [← h3] at h4
          obtain ⟨⟨v, j⟩, hj⟩ : ∃ z, Tk.numV s o 0 = z := ⟨_, rfl⟩
          rw [hj] at h4
          have h4' : o + 1 ≤ j := h4
          rw [numN_yes ho (by omega) hj (by omega)]
          unfold ovN
          rw [ho, if_pos (by omega)]
          omega
        · rw [numN_bad ho (by omega) hd]
          exact Nat.le_refl _
    omega

set_option maxRecDepth 100000 in
set_option maxHeartbeats 2000000 in
theorem number_calls (c l : Nat) (s : ByteArray) (p : Nat) (x : St) (W : World) (h : Rd c l s p x W) (hr : x.r = 0) :
    Calls Tryz.prog 118 #[.pointer (some ⟨c, 0, none⟩)] W (GP W c l s p x (gotV s p) (numN s p)) := by
  have hbig := h.so.big
  have hcw := h.clt
  have hlw := h.llt
  have hF0 := Fl.new W
  have hT0 : Tn W (W.alloc (.cells #[.int .i64 0, .int .i64 0, .int .i64 0] 36)) [c, l] := Tn.gb (World.grownBy_alloc _ _ none) (by simp)
  have KO := first9_calls c l s p x W _ (h.grown (World.grownBy_alloc W (.cells #[.int .i64 0, .int .i64 0, .int .i64 0] 36) none)) hr
  obtain ⟨Q, hQ⟩ : ∃ Q, GP W c l s p x (gotV s p) (numN s p) = Q := ⟨_, rfl⟩
  rw [hQ] at KO ⊢
  have HQ := Lib.hid hQ
  have KO := Lib.hid KO
  have HR := Lib.hid hr
  have HF0 := Lib.hid hF0
  have HT0 := Lib.hid hT0
  obtain ⟨r, hrw⟩ : ∃ r, W.heap.size = r := ⟨_, rfl⟩
  have hrc : r ≠ c := by omega
  have hrl : r ≠ l := by omega
  have HRW := Lib.hid hrw
  have HNI : r ∉ [c, l] := by simp [hrc, hrl]
  have HC := Lib.hid hrc
  have HL := Lib.hid hrl
  clear h hr hF0 hT0 hcw hlw hrc hrl hQ
  go_enter Tryz.func118, Tryz.ntmps118
  go_wp2_with fail
  rw [HRW.out] at HF0
  refine KO.out.mono ?_
  rintro e w1 ⟨q, hpq, hqs, T1, ⟨k, f, a, y, hk0, rfl, R1, hfin⟩ | ⟨o, d, ho, hpo, hos, hd9, hnum, rfl, R1⟩⟩
  · have F1 : Fl r 0 0 0 w1 := HF0.out.turned T1 HNI
    have q0 := F1.c0
    have q1 := F1.c1
    have q2 := F1.c2
    have f0 := F1.free 0
    have f1 := F1.free 1
    have f2 := F1.free 2
    have HF1 := Lib.hid (F1.set k f a)
    have HT1 := Lib.hid (Tn.own3 (v0 := .int .i64 k) (v1 := .int .i64 f) (v2 := .int .i64 a) (HT0.out.trans T1) hrw)
    have HR1 := Lib.hid (R1.st3 (v0 := .int .i64 k) (v1 := .int .i64 f) (v2 := .int .i64 a) HC.out HL.out)
    have HFI := Lib.hid hfin
    have d0 : (k == 0) = false := by rw [beq_eq_false_iff_ne]; exact hk0
    have d0' : (k != 0) = true := by rw [bne_iff_ne]; exact hk0
    clear R1 T1 F1 KO hfin
    simp only [ftT]
    clear hrw
    go_wp2_with fail
    generalize (((w1.setCell ⟨r, 0, none⟩ (.int .i64 k)).setCell ⟨r, 1, none⟩ (.int .i64 f)).setCell ⟨r, 2, none⟩ (.int .i64 a)) = w2 at HF1 HT1 HR1 ⊢
    clear q0 q1 q2 f0 f1 f2
    have q0 := HF1.out.c0
    have q1 := HF1.out.c1
    have q2 := HF1.out.c2
    have f0 := HF1.out.free 0
    have f1 := HF1.out.free 1
    have f2 := HF1.out.free 2
    go_region
    go_wp2
    refine bodyPost_ret (v := ftT k f a) (by simp only [results, Tryz.results118, ftT]; go_simp) rfl ?_
    exact HFI.out _ ((Tn.own3 HT1.out HRW.out).trans (Tn.drew _ _)) ((HR1.out.st3 HC.out HL.out).grown (gb_drew _ _))
  · have F1 : Fl r 0 0 0 w1 := HF0.out.turned T1 HNI
    have q0 := F1.c0
    have q1 := F1.c1
    have q2 := F1.c2
    have f0 := F1.free 0
    have f1 := F1.free 1
    have f2 := F1.free 2
    have HF1 := Lib.hid (F1.set 0 0 0)
    have HT1 := Lib.hid (Tn.own3 (v0 := .int .i64 0) (v1 := .int .i64 0) (v2 := .int .i64 0) (HT0.out.trans T1) hrw)
    have HR1 := Lib.hid (R1.st3 (v0 := .int .i64 0) (v1 := .int .i64 0) (v2 := .int .i64 0) HC.out HL.out)
    have HO := Lib.hid ho
    have HNU := Lib.hid hnum
    clear R1 T1 F1 KO hnum ho
    clear hrw
    go_wp2_with fail
    generalize (((w1.setCell ⟨r, 0, none⟩ (.int .i64 0)).setCell ⟨r, 1, none⟩ (.int .i64 0)).setCell ⟨r, 2, none⟩ (.int .i64 0)) = w2 at HF1 HT1 HR1 ⊢
    clear q0 q1 q2 f0 f1 f2
    go_loopg [2, 3] (s.size - (o + 1)) (fun q vv av wr => ∃ j v : Nat, o + 1 ≤ j ∧ j ≤ s.size ∧ v ≤ 1000000000 ∧ q = s.size - j ∧ vv = .int .i64 v ∧ av = .int .i64 o ∧ Tk.numV s o 0 = Tk.numV s j v ∧ Rd c l s j (stp x (j - p + 1)) wr ∧ Tn W wr [c, l] ∧ Fl r 0 0 0 wr)
    case atStart => exact ⟨o + 1, d, Nat.le_refl _, by omega, by omega, rfl, rfl, rfl, HNU.out, HR1.out, HT1.out, HF1.out⟩
    case round =>
      obtain ⟨j, v, hoj, hj, hv, rfl, rfl, rfl, J, R0, T0, F0⟩ := hrel
      have HJ := Lib.hid J
      have KL := Lib.hid (left_rd c l s j _ wr R0)
      have HT0 := Lib.hid T0
      have HF0 := Lib.hid F0
      clear J R0 T0 F0 HF1 HT1 HR1 HNU
      go_wp2_with fail
      refine KL.out.mono ?_
      rintro e w3 ⟨rfl, R1, t1⟩
      have HR1 := Lib.hid R1
      have HT1 := Lib.hid (HT0.out.trans t1)
      have HF1 := Lib.hid (HF0.out.turned t1 HNI)
      clear R1 t1 KL HT0 HF0
      have hR1 := HR1.out.ok.ts
      rw [stp_st, stp_s] at hR1
      by_cases hjs : j < s.size
      · have d0 : decide ((0 : Int) < (s.size : Int) - (j : Int)) = true := decide_eq_true (by omega)
        have hnv : ∃ j' v', Tk.numV s o 0 = (v', j') ∧ j ≤ j' := ⟨(Tk.numV s o 0).2, (Tk.numV s o 0).1, rfl, by rw [HJ.out]; exact numV_ge s _ j v rfl⟩
        by_cases hk : x.s < x.st + (j - p + 1 : Nat) + 1
        · have hno : x.s < x.st + numN s p := by
            obtain ⟨j', v', e1, e2⟩ := hnv
            rw [numN_yes HO.out hos e1 (by omega)]
            by_cases hj' : j' < s.size
            · rw [if_pos hj']
              omega
            · rw [if_neg hj']
              omega
          have HNO := Lib.hid hno
          have KU := Lib.hid (u8_spent c l s j _ w3 HR1.out HR.out hk)
          clear hno hk hnv
          go_wp2_with fail
          refine KU.out.mono ?_
          rintro e w4 ⟨rfl, R2, t2⟩
          have KF := Lib.hid (fault_spent c l s j _ 3 w4 R2)
          have HT2 := Lib.hid (HT1.out.trans t2)
          have HF2 := Lib.hid (HF1.out.turned t2 HNI)
          clear R2 t2 KU HR1 HT1 HF1
          go_wp2_with fail
          refine KF.out.mono ?_
          rintro e w5 ⟨rfl, R3, g3⟩
          have F9 : Fl r 0 0 0 w5 := HF2.out.turned (Tn.gb g3 (S := [c, l]) (by simp)) HNI
          have q0 := F9.c0
          have q1 := F9.c1
          have q2 := F9.c2
          have f0 := F9.free 0
          have f1 := F9.free 1
          have f2 := F9.free 2
          have HR9 := Lib.hid R3
          have HT9 := Lib.hid (HT2.out.trans (Tn.gb g3 (by simp)))
          clear R3 g3 KF HT2 HF2 F9
          go_wp2
          refine bodyPost_ret (v := noT j) (by simp only [results, Tryz.results118, noT]; go_simp) rfl ?_
          rw [← HQ.out]
          exact ⟨j, by omega, hj, Tn.own3 HT9.out HRW.out, .inr ⟨HNO.out, rfl, HR9.out.st3 HC.out HL.out⟩⟩
        · have KU := Lib.hid (u8_byte c l s j _ w3 HR1.out HR.out (by rw [stp_st, stp_s]; omega) hjs)
          obtain ⟨y, hy⟩ : ∃ y, bt s j = y := ⟨_, rfl⟩
          rw [hy] at KU
          have KB := fun u => digit_calls y 9 u (by decide)
          cases eB : digB y 9
          · simp only [eB] at KB
            have KBh := Lib.hid KB
            have hst := HJ.out.trans (numV_stop (v := v) (fun h' : j < s.size ∧ 48 ≤ bt s j ∧ bt s j ≤ 57 => (digB_not y 9).1 eB (by rw [← hy]; exact h'.2)))
            have hN : numN s p = j - p + 1 + 1 := by rw [numN_yes HO.out hos hst (by omega), if_pos hjs]
            have hG : gotV s p = ⟨v, o, j, 0, 0⟩ := gotV_yes' HO.out hos hst (by omega)
            have HN := Lib.hid hN
            have HG := Lib.hid hG
            clear eB KB hy hk hnv hst hN hG HJ
            go_wp2_with fail
            refine KU.out.mono ?_
            rintro e w4 ⟨rfl, R2, t2⟩
            rw [stp_stp] at R2
            have KK := Lib.hid (back_calls c l s j _ w4 R2)
            have HT2 := Lib.hid (HT1.out.trans t2)
            have HF2 := Lib.hid (HF1.out.turned t2 HNI)
            clear R2 t2 KU HR1 HT1 HF1
            go_wp2_with fail
            refine (KBh.out _).mono ?_
            rintro e w' ⟨rfl, rfl⟩
            go_wp2_with fail
            refine KK.out.mono ?_
            rintro e w5 ⟨rfl, R3, t3⟩
            have F9 : Fl r 0 0 0 w5 := HF2.out.turned t3 HNI
            have q0 := F9.c0
            have q1 := F9.c1
            have q2 := F9.c2
            have f0 := F9.free 0
            have f1 := F9.free 1
            have f2 := F9.free 2
            have HR9 := Lib.hid R3
            have HT9 := Lib.hid (HT2.out.trans t3)
            clear R3 t3 KK HT2 HF2 F9
            go_wp2
            refine bodyPost_ret (v := gotT ⟨v, o, j, 0, 0⟩) (by simp only [results, Tryz.results118, gotT]; go_simp; try rfl) rfl ?_
            rw [← HQ.out, HG.out, HN.out]
            exact ⟨j, by omega, hj, Tn.own3 HT9.out HRW.out, .inl ⟨rfl, fun _ => rfl, HR9.out.st3 HC.out HL.out⟩⟩
          · simp only [eB] at KB
            have KBh := Lib.hid KB
            have hd := (digB_iff y 9).1 eB
            have hon := HJ.out.trans (numV_on (v := v) hjs (by rw [hy]; exact hd.1) (by rw [hy]; exact hd.2))
            rw [hy] at hon
            obtain ⟨n, hn⟩ : ∃ n : Nat, 10 * v + y = n + 48 := ⟨10 * v + y - 48, by omega⟩
            rw [show 10 * v + y - 48 = n from by omega] at hon
            have hni : (10 * (v : Int) + (y : Int) - 48) = n := by omega
            have HON := Lib.hid hon
            have y9 := hd.2
            clear eB KB hy hk hnv hon HJ hd
            by_cases hcap : 999999999 < n
            · have ecap : capN n = 1000000000 := if_pos hcap
              have HON2 := Lib.hid (by have := HON.out; rw [ecap] at this; exact this)
              have d4 : min (n : Int) 1000000000 = 1000000000 := by omega
              clear ecap HON
              go_wp2_with fail
              refine KU.out.mono ?_
              rintro e w4 ⟨rfl, R2, t2⟩
              rw [stp_stp] at R2
              have HR2 := Lib.hid R2
              have HT2 := Lib.hid (HT1.out.trans t2)
              have HF2 := Lib.hid (HF1.out.turned t2 HNI)
              clear R2 t2 KU HR1 HT1 HF1
              go_wp2_with fail
              refine (KBh.out _).mono ?_
              rintro e w' ⟨rfl, rfl⟩
              go_wp2
              go_roundg (s.size - (j + 1))
              case measure => omega
              case rel => exact ⟨j + 1, 1000000000, by omega, by omega, by omega, rfl, by go_num, rfl, HON2.out, by rw [show j + 1 - p + 1 = j - p + 1 + 1 from by omega]; exact HR2.out, HT2.out, HF2.out⟩
            · have ecap : capN n = n := if_neg hcap
              have HON2 := Lib.hid (by have := HON.out; rw [ecap] at this; exact this)
              have d4 : min (n : Int) 1000000000 = n := by omega
              clear ecap HON
              go_wp2_with fail
              refine KU.out.mono ?_
              rintro e w4 ⟨rfl, R2, t2⟩
              rw [stp_stp] at R2
              have HR2 := Lib.hid R2
              have HT2 := Lib.hid (HT1.out.trans t2)
              have HF2 := Lib.hid (HF1.out.turned t2 HNI)
              clear R2 t2 KU HR1 HT1 HF1
              go_wp2_with fail
              refine (KBh.out _).mono ?_
              rintro e w' ⟨rfl, rfl⟩
              go_wp2
              go_roundg (s.size - (j + 1))
              case measure => omega
              case rel => exact ⟨j + 1, n, by omega, by omega, by omega, rfl, by go_num, rfl, HON2.out, by rw [show j + 1 - p + 1 = j - p + 1 + 1 from by omega]; exact HR2.out, HT2.out, HF2.out⟩
      · obtain rfl : j = s.size := by omega
        have hst := HJ.out.trans (numV_stop (v := v) (fun h' : s.size < s.size ∧ 48 ≤ bt s s.size ∧ bt s s.size ≤ 57 => absurd h'.1 (Nat.lt_irrefl _)))
        have hN : numN s p = s.size - p + 1 := by rw [numN_yes HO.out hos hst (by omega), if_neg (by omega)]
        have hG : gotV s p = ⟨v, o, s.size, 0, 0⟩ := gotV_yes' HO.out hos hst (by omega)
        have HN := Lib.hid hN
        have HG := Lib.hid hG
        have d0 : decide ((0 : Int) < (s.size : Int) - (s.size : Int)) = false := decide_eq_false (by omega)
        clear hst hN hG HJ
        have q0 := HF1.out.c0
        have q1 := HF1.out.c1
        have q2 := HF1.out.c2
        have f0 := HF1.out.free 0
        have f1 := HF1.out.free 1
        have f2 := HF1.out.free 2
        go_wp2
        refine bodyPost_ret (v := gotT ⟨v, o, s.size, 0, 0⟩) (by simp only [results, Tryz.results118, gotT]; go_simp; try rfl) rfl ?_
        rw [← HQ.out, HG.out, HN.out]
        exact ⟨s.size, by omega, Nat.le_refl _, Tn.own3 HT1.out HRW.out, .inl ⟨rfl, fun _ => rfl, HR1.out.st3 HC.out HL.out⟩⟩

end Go.Proofs.YtfhcefglefkakaaGreatDoor.Tk
