/- Package pnmhead: the kind. -/
import Derived.Test.YtfhcefglefkakaaGreatDoorPnh4
namespace Go.Proofs.YtfhcefglefkakaaGreatDoor.Ph
open Go.ChangeShapes Go.WideShapes Go.ChangeAt Go.RowKit
open Go.Proofs.YtfhcefglefkakaaGreatDoor.Le Go.Proofs.YtfhcefglefkakaaGreatDoor.Sr Go.Proofs.YtfhcefglefkakaaGreatDoor.Tk
set_option linter.unusedVariables false

theorem endN_ge {k : Nat} {R : NR} : R.n ≤ endN k R := by
  unfold endN
  repeat' split
  all_goals omega
theorem readN_ge2 {s : ByteArray} (h : 0 < s.size) (h0 : bt s 0 = 80) : 2 ≤ readN s := by
  by_cases h2 : s.size < 2
  · rw [readN_2 (by omega) h0 h2]
    exact Nat.le_refl _
  · by_cases h3 : 49 ≤ bt s 1 ∧ bt s 1 ≤ 54
    · rw [readN_4 (k := bt s 1 - 48) h2 h0 (by omega) (by omega)]
      have := (nums_gd s (bt s 1 - 48) 3 nr0 rfl (by show 2 ≤ _; omega)).2.1
      have h' : 2 ≤ _ := this
      exact Nat.le_trans h' endN_ge
    · rw [readN_3 h2 h0 h3]
      exact Nat.le_refl _
theorem readN_ge1 (s : ByteArray) : 1 ≤ readN s := by
  by_cases h : s.size < 1
  · rw [readN_0 h]
    exact Nat.le_refl _
  · by_cases h0 : bt s 0 = 80
    · have := readN_ge2 (by omega) h0
      omega
    · rw [readN_1 h h0]
      exact Nat.le_refl _

/-- The first byte. -/
theorem kindA_calls (c l : Nat) (s : ByteArray) (x : St) (W0 W : World) (h : Rd c l s 0 x W) (hr : x.r = 0) :
    Calls Tryz.prog 114 #[.pointer (some ⟨c, 0, none⟩), .func (.func 115) #[] #[]] W fun e w' =>
      ∃ q, q ≤ s.size ∧ Tn W w' [c, l] ∧ ((∃ (k f a : Int) (y : St), e = .returned (bfT 0 k f a) ∧ Rd c l s q y w' ∧ FP W0 c l s x k f a q y) ∨ (0 < s.size ∧ bt s 0 = 80 ∧ e = .returned (bfT 80 0 0 0) ∧ Rd c l s 1 (stp x 1) w')) := by
  by_cases hk : x.s < x.st + 1
  · refine (byte_spent _ c l s 0 x W h hr hk).mono fun e w' ⟨he, R, t⟩ => ⟨0, Nat.zero_le _, t, .inl ⟨4, 3, 0, _, he, R, fp_spent (Nat.zero_le _) ?_⟩⟩
    have := readN_ge1 s
    omega
  · by_cases hz : s.size = 0
    · refine (byte_end _ c l s 0 x W h hr (by omega) (by omega)).mono fun e w' ⟨he, R, t⟩ => ⟨0, Nat.zero_le _, t, .inl ⟨1, 3, s.size, _, he, R, ?_⟩⟩
      refine fp_fault (Nat.zero_le _) (by decide) ?_ (readN_0 (by omega))
      rw [readV_0 (by omega), hz]
    · have h0 : 0 < s.size := by omega
      have KM := fun u => kind1_calls (bt s 0) u
      by_cases hb : bt s 0 = 80
      · simp only [show ((bt s 0 : Int) == 80) = true from by rw [beq_iff_eq]; omega] at KM
        refine (byte_yes1 c l s 0 x W h hr (by omega) h0 KM).mono fun e w' ⟨he, R, t⟩ => ⟨0, Nat.zero_le _, t, .inr ⟨h0, hb, ?_, R⟩⟩
        rw [he, hb]
        rfl
      · simp only [show ((bt s 0 : Int) == 80) = false from by rw [beq_eq_false_iff_ne]; omega] at KM
        refine (byte_bad1 c l s 0 x W h hr (by omega) h0 KM).mono fun e w' ⟨he, R, t⟩ => ⟨1, h0, t, .inl ⟨2, 3, _, _, he, R, ?_⟩⟩
        exact fp_fault h0 (by decide) (readV_1 (by omega) hb) (readN_1 (by omega) hb)

/-- The second. -/
theorem kindB_calls (c l : Nat) (s : ByteArray) (x : St) (W0 W : World) (h : Rd c l s 1 (stp x 1) W) (hr : x.r = 0) (h0 : 0 < s.size) (hb : bt s 0 = 80) :
    Calls Tryz.prog 114 #[.pointer (some ⟨c, 0, none⟩), .func (.func 116) #[] #[]] W fun e w' =>
      ∃ q, q ≤ s.size ∧ Tn W w' [c, l] ∧ ((∃ (k f a : Int) (y : St), e = .returned (bfT 0 k f a) ∧ Rd c l s q y w' ∧ FP W0 c l s x k f a q y) ∨ (∃ k : Nat, 1 ≤ k ∧ k ≤ 6 ∧ 2 ≤ s.size ∧ bt s 1 = k + 48 ∧ e = .returned (bfT ((k + 48 : Nat) : Int) 0 0 0) ∧ Rd c l s 2 (stp x 2) w')) := by
  by_cases hk : x.s < x.st + (1 : Nat) + 1
  · refine (byte_spent _ c l s 1 _ W h hr hk).mono fun e w' ⟨he, R, t⟩ => ⟨1, h0, t, .inl ⟨4, 3, 1, _, he, R, fp_spent h0 ?_⟩⟩
    have := readN_ge2 h0 hb
    omega
  · have hk' : (stp x 1).st + 1 ≤ (stp x 1).s := by rw [stp_st, stp_s]; omega
    by_cases hz : s.size < 2
    · refine (byte_end _ c l s 1 _ W h hr hk' (by omega)).mono fun e w' ⟨he, R, t⟩ => ⟨1, h0, t, .inl ⟨1, 3, s.size, _, he, R, ?_⟩⟩
      rw [stp_stp]
      refine fp_fault h0 (by decide) ?_ (readN_2 (by omega) hb hz)
      rw [readV_2 (by omega) hb hz, show s.size = 1 from by omega]
    · have h1 : 1 < s.size := by omega
      have KM := fun u => kind2_calls (bt s 1) u (bt_lt s 1)
      by_cases h3 : 49 ≤ bt s 1 ∧ bt s 1 ≤ 54
      · simp only [(rgB_iff 1 6 ((bt s 1 : Int) - 48)).2 (by omega)] at KM
        refine (byte_yes2 c l s 1 _ W h hr hk' h1 KM).mono fun e w' ⟨he, R, t⟩ => ⟨2, h1, t, .inr ⟨bt s 1 - 48, by omega, by omega, h1, by omega, ?_, ?_⟩⟩
        · rw [he, show bt s 1 - 48 + 48 = bt s 1 from by omega]
        · rw [stp_stp] at R
          exact R
      · simp only [(rgB_not 1 6 ((bt s 1 : Int) - 48)).2 (by omega)] at KM
        refine (byte_bad2 c l s 1 _ W h hr hk' h1 KM).mono fun e w' ⟨he, R, t⟩ => ⟨2, h1, t, .inl ⟨2, 3, _, _, he, R, ?_⟩⟩
        rw [stp_stp]
        exact fp_fault h1 (by decide) (readV_3 hz hb h3) (readN_3 hz hb h3)

set_option maxRecDepth 100000 in
set_option maxHeartbeats 4000000 in
theorem kind_calls (c l : Nat) (s : ByteArray) (x : St) (W0 W : World) (h : Rd c l s 0 x W) (hr : x.r = 0) :
    Calls Tryz.prog 63 #[.pointer (some ⟨c, 0, none⟩)] W fun e w' =>
      ∃ q, q ≤ s.size ∧ Tn W w' [c, l] ∧ ((∃ (k f a : Int) (y : St), e = .returned (bfT 0 k f a) ∧ Rd c l s q y w' ∧ FP W0 c l s x k f a q y) ∨
        (∃ k : Nat, 1 ≤ k ∧ k ≤ 6 ∧ 2 ≤ s.size ∧ bt s 0 = 80 ∧ bt s 1 = k + 48 ∧ e = .returned (bfT k 0 0 0) ∧ Rd c l s 2 (stp x 2) w')) := by
  have hcw := h.clt
  have hlw := h.llt
  have hF0 := Fl.new W
  have hT0 : Tn W (W.alloc (.cells #[.int .i64 0, .int .i64 0, .int .i64 0] 36)) [c, l] := Tn.gb (World.grownBy_alloc _ _ none) (by simp)
  have KA := Lib.hid (kindA_calls c l s x W0 _ (h.grown (World.grownBy_alloc W (.cells #[.int .i64 0, .int .i64 0, .int .i64 0] 36) none)) hr)
  have HF0 := Lib.hid hF0
  have HT0 := Lib.hid hT0
  have HR := Lib.hid hr
  obtain ⟨r, hrw⟩ : ∃ r, W.heap.size = r := ⟨_, rfl⟩
  have hrc : r ≠ c := by omega
  have hrl : r ≠ l := by omega
  have HRW := Lib.hid hrw
  have HNI : r ∉ [c, l] := by simp [hrc, hrl]
  have HC := Lib.hid hrc
  have HL := Lib.hid hrl
  have hcr : c < r := by omega
  have hlr : l < r := by omega
  clear h hr hF0 hT0 hcw hlw hrc hrl
  go_enter Tryz.func63, Tryz.ntmps63
  go_wp2_with fail
  rw [HRW.out] at HF0
  refine KA.out.mono ?_
  rintro e w1 ⟨q, hq, T1, ⟨k, f, a, y, rfl, R1, P⟩ | ⟨h0, hb, rfl, R1⟩⟩
  · have F1 := HF0.out.turned T1 HNI
    have hr1 := F1.lt
    have B1 : Fl w1.heap.size k f a (w1.alloc (.cells #[.int .i64 k, .int .i64 f, .int .i64 a] 36)) := blk_at
    have HB1 := Lib.hid B1
    have HF1 := Lib.hid (show Fl r 0 0 0 (w1.alloc (.cells #[.int .i64 k, .int .i64 f, .int .i64 a] 36)) from blk_al F1 _)
    have HT1 := Lib.hid ((HT0.out.trans T1).al (o := .cells #[.int .i64 k, .int .i64 f, .int .i64 a] 36))
    have HR1 := Lib.hid (R1.grown (World.grownBy_alloc w1 (.cells #[.int .i64 k, .int .i64 f, .int .i64 a] 36) none))
    have HP := Lib.hid P
    have d0 : (k == 0) = false := by rw [beq_eq_false_iff_ne]; exact P.1
    have d0' : (k != 0) = true := by rw [bne_iff_ne]; exact P.1
    have hne : ¬ w1.heap.size = r := by omega
    have hne' : ¬ r = w1.heap.size := by omega
    clear F1 T1 R1 P KA B1 hrw
    simp only [bfT]
    go_wp2_with fail
    generalize w1.alloc (.cells #[.int .i64 k, .int .i64 f, .int .i64 a] 36) = w2 at HB1 HF1 HT1 HR1 ⊢
    have p0 := HB1.out.c0
    have p1 := HB1.out.c1
    have p2 := HB1.out.c2
    have q0 := HF1.out.c0
    have q1 := HF1.out.c1
    have q2 := HF1.out.c2
    have f0 := HF1.out.free 0
    have f1 := HF1.out.free 1
    have f2 := HF1.out.free 2
    go_region
    go_wp2
    exact bodyPost_ret (v := bfT 0 k f a) (by simp only [results, Tryz.results63, bfT]; go_simp) rfl ⟨q, hq, (Tn.own3 HT1.out HRW.out).trans (Tn.drew _ _), .inl ⟨k, f, a, y, rfl, (HR1.out.st3 HC.out HL.out).grown (gb_drew _ _), HP.out⟩⟩
  · have F1 := HF0.out.turned T1 HNI
    have hr1 := F1.lt
    have F2 : Fl r 0 0 0 (w1.alloc (.cells #[.int .i64 0, .int .i64 0, .int .i64 0] 36)) := blk_al F1 _
    have R2 := R1.grown (World.grownBy_alloc w1 (.cells #[.int .i64 0, .int .i64 0, .int .i64 0] 36) none)
    have KB := Lib.hid (kindB_calls c l s x W0 _ R2 HR.out h0 hb)
    have HF2 := Lib.hid F2
    have HT2 := Lib.hid ((HT0.out.trans T1).al (o := .cells #[.int .i64 0, .int .i64 0, .int .i64 0] 36))
    have H0 := Lib.hid hb
    clear F1 T1 R1 KA F2 R2 hrw hb
    simp only [bfT]
    go_wp2_with fail
    refine KB.out.mono ?_
    rintro e w3 ⟨q, hq, T3, ⟨k, f, a, y, rfl, R3, P⟩ | ⟨k, hk1, hk6, h2, hb1, rfl, R3⟩⟩
    · have F3 := HF2.out.turned T3 HNI
      have hr1 := F3.lt
      have B1 : Fl w3.heap.size k f a (w3.alloc (.cells #[.int .i64 k, .int .i64 f, .int .i64 a] 36)) := blk_at
      have HB1 := Lib.hid B1
      have HF1 := Lib.hid (show Fl r 0 0 0 (w3.alloc (.cells #[.int .i64 k, .int .i64 f, .int .i64 a] 36)) from blk_al F3 _)
      have HT1 := Lib.hid ((HT2.out.trans T3).al (o := .cells #[.int .i64 k, .int .i64 f, .int .i64 a] 36))
      have HR1 := Lib.hid (R3.grown (World.grownBy_alloc w3 (.cells #[.int .i64 k, .int .i64 f, .int .i64 a] 36) none))
      have HP := Lib.hid P
      have d0 : (k == 0) = false := by rw [beq_eq_false_iff_ne]; exact P.1
      have d0' : (k != 0) = true := by rw [bne_iff_ne]; exact P.1
      have hne : ¬ w3.heap.size = r := by omega
      have hne' : ¬ r = w3.heap.size := by omega
      clear F3 T3 R3 P KB B1 HF2 HT2
      simp only [bfT]
      go_wp2_with fail
      generalize w3.alloc (.cells #[.int .i64 k, .int .i64 f, .int .i64 a] 36) = w4 at HB1 HF1 HT1 HR1 ⊢
      have p0 := HB1.out.c0
      have p1 := HB1.out.c1
      have p2 := HB1.out.c2
      have q0 := HF1.out.c0
      have q1 := HF1.out.c1
      have q2 := HF1.out.c2
      have f0 := HF1.out.free 0
      have f1 := HF1.out.free 1
      have f2 := HF1.out.free 2
      go_region
      go_wp2
      exact bodyPost_ret (v := bfT 0 k f a) (by simp only [results, Tryz.results63, bfT]; go_simp) rfl ⟨q, hq, (Tn.own3 HT1.out HRW.out).trans (Tn.drew _ _), .inl ⟨k, f, a, y, rfl, (HR1.out.st3 HC.out HL.out).grown (gb_drew _ _), HP.out⟩⟩
    · have F3 := HF2.out.turned T3 HNI
      have hr1 := F3.lt
      have B1 : Fl w3.heap.size 0 0 0 (w3.alloc (.cells #[.int .i64 0, .int .i64 0, .int .i64 0] 36)) := blk_at
      have HB1 := Lib.hid B1
      have HF1 := Lib.hid (show Fl r 0 0 0 (w3.alloc (.cells #[.int .i64 0, .int .i64 0, .int .i64 0] 36)) from blk_al F3 _)
      have HT1 := Lib.hid ((HT2.out.trans T3).al (o := .cells #[.int .i64 0, .int .i64 0, .int .i64 0] 36))
      have HR1 := Lib.hid (R3.grown (World.grownBy_alloc w3 (.cells #[.int .i64 0, .int .i64 0, .int .i64 0] 36) none))
      have HB := Lib.hid hb1
      have hke : (((k + 48 : Nat) : Int) - 48) = k := by omega
      have hne : ¬ w3.heap.size = r := by omega
      have hne' : ¬ r = w3.heap.size := by omega
      clear F3 T3 R3 KB B1 HF2 HT2 hb1
      simp only [bfT]
      go_wp2_with fail
      generalize w3.alloc (.cells #[.int .i64 0, .int .i64 0, .int .i64 0] 36) = w4 at HB1 HF1 HT1 HR1 ⊢
      have p0 := HB1.out.c0
      have p1 := HB1.out.c1
      have p2 := HB1.out.c2
      have q0 := HF1.out.c0
      have q1 := HF1.out.c1
      have q2 := HF1.out.c2
      have f0 := HF1.out.free 0
      have f1 := HF1.out.free 1
      have f2 := HF1.out.free 2
      go_region
      go_wp2
      exact bodyPost_ret (v := bfT k 0 0 0) (by simp only [results, Tryz.results63, bfT]; go_simp) rfl ⟨q, hq, (Tn.own3 HT1.out HRW.out).trans (Tn.drew _ _), .inr ⟨k, hk1, hk6, h2, H0.out, HB.out, rfl, (HR1.out.st3 HC.out HL.out).grown (gb_drew _ _)⟩⟩

end Go.Proofs.YtfhcefglefkakaaGreatDoor.Ph
