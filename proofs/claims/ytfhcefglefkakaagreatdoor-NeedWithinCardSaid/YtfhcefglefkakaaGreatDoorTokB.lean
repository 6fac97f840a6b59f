/- Package token: a digit, one blank byte; what is said of the document's answers. -/
import Derived.Test.YtfhcefglefkakaaGreatDoorTokA
namespace Go.Proofs.YtfhcefglefkakaaGreatDoor.Tk
open Go.ChangeShapes Go.WideShapes Go.ChangeAt Go.RowKit
open Go.Proofs.YtfhcefglefkakaaGreatDoor.Le Go.Proofs.YtfhcefglefkakaaGreatDoor.Sr
set_option linter.unusedVariables false

/-- What holds of a document's answer of which N readings are wanted. -/
def Gd (s : ByteArray) (k : Nat) (g : Got) (N : Nat) : Prop :=
  (∃ kd pl, g = ⟨0, 0, 0, kd, pl⟩ ∧ kd ≠ 0 ∧ kd < 3 ∧ pl ≤ s.size ∧ N ≤ s.size - k + 2) ∨ (∃ v f j, g = ⟨v, f, j, 0, 0⟩ ∧ k ≤ f ∧ f < j ∧ j ≤ s.size ∧ v ≤ 1000000000 ∧ N ≤ j - k + 2)

theorem gotV_gd (s : ByteArray) (k : Nat) (hk : k ≤ s.size) : Gd s k (gotV s k) (numN s k) := by
  obtain ⟨o, ho⟩ : ∃ o, overV s k = o := ⟨_, rfl⟩
  have h1 := overV_ge s _ k rfl
  have h2 := overV_le s _ k rfl hk
  rw [ho] at h1 h2
  by_cases hz : s.size ≤ o
  · refine .inl ⟨1, s.size, gotV_none' ho hz, by decide, by decide, Nat.le_refl _, ?_⟩
    rw [numN_none ho hz]
    unfold ovN
    rw [ho, if_neg (by omega)]
    omega
  · by_cases hd : 48 ≤ bt s o ∧ bt s o ≤ 57
    · have h3 := numV_on (v := 0) (by omega : o < s.size) hd.1 hd.2
      have h4 := numV_ge s _ (o + 1) (capN (10 * 0 + bt s o - 48)) rfl
      rw [← h3] at h4
      have h5 := numV_le s _ o 0 rfl h2
      have h6 := numV_cap s _ o 0 rfl (by decide)
      obtain ⟨⟨v, j⟩, hj⟩ : ∃ z, Tk.numV s o 0 = z := ⟨_, rfl⟩
      rw [hj] at h4 h5 h6
      have h4' : o + 1 ≤ j := h4
      have h5' : j ≤ s.size := h5
      refine .inr ⟨v, o, j, gotV_yes' ho (by omega) hj (by omega), h1, by omega, h5', h6, ?_⟩
      rw [numN_yes ho (by omega) hj (by omega)]
      split <;> omega
    · refine .inl ⟨2, o, gotV_bad' ho (by omega) hd, by decide, by decide, h2, ?_⟩
      rw [numN_bad ho (by omega) hd]
      unfold ovN
      rw [ho, if_pos (by omega)]
      omega
theorem numN_le (s : ByteArray) (k : Nat) (hk : k ≤ s.size) : numN s k ≤ s.size - k + 2 := by
  rcases gotV_gd s k hk with ⟨_, _, _, _, _, _, h⟩ | ⟨_, _, j, _, _, _, _, _, h⟩
  · exact h
  · omega

theorem dgV_one (s : ByteArray) (k : Nat) : dgV s k 1 = digV s k := by
  unfold dgV digV
  by_cases hz : s.size ≤ overV s k
  · rw [if_pos hz, if_pos hz]
  · rw [if_neg hz, if_neg hz]
    by_cases h : bt s (overV s k) = 48 ∨ bt s (overV s k) = 49
    · rw [if_pos h, if_pos ((digB_iff _ _).2 (by omega))]
    · rw [if_neg h, if_neg (fun h' => h (by have := (digB_iff _ _).1 h'; omega))]
theorem digV_gd (s : ByteArray) (k : Nat) (hk : k ≤ s.size) : Gd s k (digV s k) (ovN s k + 1) := by
  rw [← dgV_one]
  obtain ⟨o, ho⟩ : ∃ o, overV s k = o := ⟨_, rfl⟩
  have h1 := overV_ge s _ k rfl
  have h2 := overV_le s _ k rfl hk
  rw [ho] at h1 h2
  by_cases hz : s.size ≤ o
  · refine .inl ⟨1, s.size, dgV_none ho hz, by decide, by decide, Nat.le_refl _, ?_⟩
    unfold ovN
    rw [ho, if_neg (by omega)]
    omega
  · have hN : ovN s k = o - k + 1 := by
      unfold ovN
      rw [ho, if_pos (by omega)]
    cases hd : digB (bt s o) 1
    · exact .inl ⟨2, o, dgV_bad ho (by omega) rfl hd, by decide, by decide, h2, by omega⟩
    · have := (digB_iff _ _).1 hd
      exact .inr ⟨bt s o - 48, o, o + 1, dgV_yes ho (by omega) rfl hd, h1, by omega, by omega, by omega, by omega⟩

/-- What a function of the package answers is a value, a place, a fault. -/
theorem GP.re {W0 W w' : World} {c l : Nat} {s : ByteArray} {p : Nat} {x : St} {g : Got} {N : Nat} {e : Ending} (h : GP W c l s p x g N e w') :
    ∃ (v at_ k f a : Int) (q : Nat) (y : St), e = .returned (.tuple #[.int .i64 v, .int .i64 at_, .agg #[.int .i64 k, .int .i64 f, .int .i64 a]]) ∧ Rd c l s q y w' ∧ Tn W w' [c, l] ∧
      (∀ u, Tn W0 u [c, l] → Rd c l s q y u → GP W0 c l s p x g N e u) := by
  obtain ⟨q, h1, h2, t, ⟨he, hn, R⟩ | ⟨hs, he, R⟩⟩ := h
  · exact ⟨_, _, _, _, _, q, _, he, R, t, fun u t' R' => ⟨q, h1, h2, t', .inl ⟨he, hn, R'⟩⟩⟩
  · exact ⟨_, _, _, _, _, q, _, he, R, t, fun u t' R' => ⟨q, h1, h2, t', .inr ⟨hs, he, R'⟩⟩⟩

/-- One byte, which must be a blank one. -/
theorem one_yes (c l : Nat) (s : ByteArray) (p : Nat) (x : St) (W : World) (h : Rd c l s p x W) (hr : x.r = 0) (hk : x.st + 1 ≤ x.s) (hp : p < s.size) :
    Calls Tryz.prog 66 #[.pointer (some ⟨c, 0, none⟩)] W fun e w' =>
      e = .returned (if blankB (bt s p) = true then okF else .agg #[.int .i64 2, .int .i64 3, .int .i64 p]) ∧ Rd c l s (p + 1) (stp x 1) w' ∧ Tn W w' [c, l] := by
  have hcw := h.clt
  have hlw := h.llt
  have hF0 := Fl.new W
  have hT0 : Tn W (W.alloc (.cells #[.int .i64 0, .int .i64 0, .int .i64 0] 36)) [c, l] := Tn.gb (World.grownBy_alloc _ _ none) (by simp)
  have KU := u8_byte c l s p x _ (h.grown (World.grownBy_alloc W (.cells #[.int .i64 0, .int .i64 0, .int .i64 0] 36) none)) hr hk hp
  obtain ⟨y, hy⟩ : ∃ y, bt s p = y := ⟨_, rfl⟩
  rw [hy] at KU ⊢
  have KU := Lib.hid KU
  have KB := fun u => blank_calls y u
  have HF0 := Lib.hid hF0
  have HT0 := Lib.hid hT0
  obtain ⟨r, hrw⟩ : ∃ r, W.heap.size = r := ⟨_, rfl⟩
  have hrc : r ≠ c := by omega
  have hrl : r ≠ l := by omega
  have HRW := Lib.hid hrw
  have HNI : r ∉ [c, l] := by simp [hrc, hrl]
  have HC := Lib.hid hrc
  have HL := Lib.hid hrl
  clear h hr hF0 hT0 hcw hlw hrc hrl hy
  cases eB : blankB y
  · simp only [eB] at KB
    rw [if_neg (by decide)]
    have KBh := Lib.hid KB
    clear eB KB
    go_enter Tryz.func66, Tryz.ntmps66
    go_wp2_with fail
    rw [HRW.out] at HF0
    refine KU.out.mono ?_
    rintro e w1 ⟨rfl, R1, T1⟩
    have KM := Lib.hid (malformed_calls c l s p _ w1 R1)
    have HT1 := Lib.hid (HT0.out.trans T1)
    have HF1 := Lib.hid (HF0.out.turned T1 HNI)
    clear R1 T1 KU hrw
    go_wp2_with fail
    refine (KBh.out _).mono ?_
    rintro e w' ⟨rfl, rfl⟩
    go_wp2_with fail
    refine KM.out.mono ?_
    rintro e w4 ⟨rfl, R4, g4⟩
    have F9 : Fl r 0 0 0 w4 := HF1.out.turned (Tn.gb g4 (S := [c, l]) (by simp)) HNI
    have q0 := F9.c0
    have q1 := F9.c1
    have q2 := F9.c2
    have f0 := F9.free 0
    have f1 := F9.free 1
    have f2 := F9.free 2
    have HR9 := Lib.hid R4
    have HT9 := Lib.hid (HT1.out.trans (Tn.gb g4 (by simp)))
    clear R4 g4 KM HT1 HF1 F9
    go_wp2
    exact bodyPost_ret (v := .agg #[.int .i64 2, .int .i64 3, .int .i64 p]) (by simp only [results, Tryz.results66]; go_simp) rfl ⟨rfl, HR9.out.st3 HC.out HL.out, Tn.own3 HT9.out HRW.out⟩
  · simp only [eB] at KB
    rw [if_pos rfl]
    have KBh := Lib.hid KB
    clear eB KB
    go_enter Tryz.func66, Tryz.ntmps66
    go_wp2_with fail
    rw [HRW.out] at HF0
    refine KU.out.mono ?_
    rintro e w1 ⟨rfl, R1, T1⟩
    have F9 : Fl r 0 0 0 w1 := HF0.out.turned T1 HNI
    have q0 := F9.c0
    have q1 := F9.c1
    have q2 := F9.c2
    have f0 := F9.free 0
    have f1 := F9.free 1
    have f2 := F9.free 2
    have HR9 := Lib.hid R1
    have HT9 := Lib.hid (HT0.out.trans T1)
    clear R1 T1 KU F9 hrw
    go_wp2_with fail
    refine (KBh.out _).mono ?_
    rintro e w' ⟨rfl, rfl⟩
    go_wp2
    exact bodyPost_ret (v := okF) (by simp only [results, Tryz.results66, okF]; go_simp) rfl ⟨rfl, HR9.out.st3 HC.out HL.out, Tn.own3 HT9.out HRW.out⟩

theorem one_end (c l : Nat) (s : ByteArray) (p : Nat) (x : St) (W : World) (h : Rd c l s p x W) (hr : x.r = 0) (hk : x.st + 1 ≤ x.s) (hp : s.size ≤ p) :
    Calls Tryz.prog 66 #[.pointer (some ⟨c, 0, none⟩)] W fun e w' =>
      e = .returned (.agg #[.int .i64 1, .int .i64 3, .int .i64 s.size]) ∧ Rd c l s p (stp x 1) w' ∧ Tn W w' [c, l] := by
  have hcw := h.clt
  have hlw := h.llt
  have hF0 := Fl.new W
  have hT0 : Tn W (W.alloc (.cells #[.int .i64 0, .int .i64 0, .int .i64 0] 36)) [c, l] := Tn.gb (World.grownBy_alloc _ _ none) (by simp)
  have KU := u8_over c l s p x _ (h.grown (World.grownBy_alloc W (.cells #[.int .i64 0, .int .i64 0, .int .i64 0] 36) none)) hr hk hp
  have KU := Lib.hid KU
  have HF0 := Lib.hid hF0
  have HT0 := Lib.hid hT0
  have HR := Lib.hid hr
  obtain ⟨r, hrw⟩ : ∃ r, W.heap.size = r := ⟨_, rfl⟩
  have hrc : r ≠ c := by omega
  have hrl : r ≠ l := by omega
  have HRW := Lib.hid hrw
  have HNI : r ∉ [c, l] := by simp [hrc, hrl]
  have HC := Lib.hid hrc
  have HL := Lib.hid hrl
  clear h hr hF0 hT0 hcw hlw hrc hrl
  go_enter Tryz.func66, Tryz.ntmps66
  go_wp2_with fail
  rw [HRW.out] at HF0
  refine KU.out.mono ?_
  rintro e w1 ⟨rfl, R1, T1⟩
  have KF := Lib.hid (fault_end c l s p _ 3 w1 R1 HR.out)
  have HT1 := Lib.hid (HT0.out.trans T1)
  have HF1 := Lib.hid (HF0.out.turned T1 HNI)
  clear R1 T1 KU hrw
  go_wp2_with fail
  refine KF.out.mono ?_
  rintro e w4 ⟨rfl, R4, g4⟩
  have F9 : Fl r 0 0 0 w4 := HF1.out.turned (Tn.gb g4 (S := [c, l]) (by simp)) HNI
  have q0 := F9.c0
  have q1 := F9.c1
  have q2 := F9.c2
  have f0 := F9.free 0
  have f1 := F9.free 1
  have f2 := F9.free 2
  have HR9 := Lib.hid R4
  have HT9 := Lib.hid (HT1.out.trans (Tn.gb g4 (by simp)))
  clear R4 g4 KF HT1 HF1 F9
  go_wp2
  exact bodyPost_ret (v := .agg #[.int .i64 1, .int .i64 3, .int .i64 s.size]) (by simp only [results, Tryz.results66]; go_simp) rfl ⟨rfl, HR9.out.st3 HC.out HL.out, Tn.own3 HT9.out HRW.out⟩

theorem one_spent (c l : Nat) (s : ByteArray) (p : Nat) (x : St) (W : World) (h : Rd c l s p x W) (hr : x.r = 0) (hk : x.s < x.st + 1) :
    Calls Tryz.prog 66 #[.pointer (some ⟨c, 0, none⟩)] W fun e w' =>
      e = .returned (noF p) ∧ Rd c l s p (spent x) w' ∧ Tn W w' [c, l] := by
  have hcw := h.clt
  have hlw := h.llt
  have hF0 := Fl.new W
  have hT0 : Tn W (W.alloc (.cells #[.int .i64 0, .int .i64 0, .int .i64 0] 36)) [c, l] := Tn.gb (World.grownBy_alloc _ _ none) (by simp)
  have KU := u8_spent c l s p x _ (h.grown (World.grownBy_alloc W (.cells #[.int .i64 0, .int .i64 0, .int .i64 0] 36) none)) hr hk
  have KU := Lib.hid KU
  have HF0 := Lib.hid hF0
  have HT0 := Lib.hid hT0
  obtain ⟨r, hrw⟩ : ∃ r, W.heap.size = r := ⟨_, rfl⟩
  have hrc : r ≠ c := by omega
  have hrl : r ≠ l := by omega
  have HRW := Lib.hid hrw
  have HNI : r ∉ [c, l] := by simp [hrc, hrl]
  have HC := Lib.hid hrc
  have HL := Lib.hid hrl
  clear h hr hF0 hT0 hcw hlw hrc hrl
  go_enter Tryz.func66, Tryz.ntmps66
  go_wp2_with fail
  rw [HRW.out] at HF0
  refine KU.out.mono ?_
  rintro e w1 ⟨rfl, R1, T1⟩
  have KF := Lib.hid (fault_spent c l s p _ 3 w1 R1)
  have HT1 := Lib.hid (HT0.out.trans T1)
  have HF1 := Lib.hid (HF0.out.turned T1 HNI)
  clear R1 T1 KU hrw
  go_wp2_with fail
  refine KF.out.mono ?_
  rintro e w4 ⟨rfl, R4, g4⟩
  have F9 : Fl r 0 0 0 w4 := HF1.out.turned (Tn.gb g4 (S := [c, l]) (by simp)) HNI
  have q0 := F9.c0
  have q1 := F9.c1
  have q2 := F9.c2
  have f0 := F9.free 0
  have f1 := F9.free 1
  have f2 := F9.free 2
  have HR9 := Lib.hid R4
  have HT9 := Lib.hid (HT1.out.trans (Tn.gb g4 (by simp)))
  clear R4 g4 KF HT1 HF1 F9
  go_wp2
  exact bodyPost_ret (v := noF p) (by simp only [results, Tryz.results66, noF]; go_simp) rfl ⟨rfl, HR9.out.st3 HC.out HL.out, Tn.own3 HT9.out HRW.out⟩

end Go.Proofs.YtfhcefglefkakaaGreatDoor.Tk
