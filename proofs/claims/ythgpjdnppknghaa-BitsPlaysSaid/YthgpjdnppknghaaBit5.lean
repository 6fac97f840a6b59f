/- Package bits: the number of the next bits, lowest first; where the bytes end; counts that may not be. -/
import Derived.Test.YthgpjdnppknghaaBit4
namespace Go.Proofs.Ythgpjdnppknghaa.Bi
open Go.ChangeShapes Go.WideShapes Go.ChangeAt Go.RowKit
open Go.Proofs.Ythgpjdnppknghaa.Le Go.Proofs.Ythgpjdnppknghaa.Sr
set_option linter.unusedVariables false

set_option maxRecDepth 100000 in
set_option maxHeartbeats 4000000 in
theorem read_low (m r c l : Nat) (s : ByteArray) (a n : Nat) (p left : Nat) (last : Int) (w : World) (h : RS m r c l s a true p left last w) (h7 : left ≤ 7) (hn : n ≤ 32) (hs : a + n ≤ 8 * s.size) :
    Calls Try.prog 18 #[.pointer (some ⟨r, 0, none⟩), .int .i64 n] w
      fun e w' => ∃ (p' left' : Nat) (last' : Int), e = .returned (.tuple #[.int .i64 (bitsV true s a n), .bool true]) ∧ (RS m r c l s (a + n) true p' left' last' w' ∧ left' ≤ 7) ∧ Tn w w' [r, c, l] := by
  have H := Lib.hid h
  clear h
  go_enter Try.func18, Try.ntmps18
  go_wp2_with fail
  go_loopg [6, 7] (n + 1) (fun q vv hv wr => ∃ (had p left : Nat) (last : Int), had ≤ n ∧ q = n + 1 - had ∧ vv = .int .i64 (bitsV true s a had) ∧ hv = .int .i64 had ∧ (RS m r c l s (a + had) true p left last wr ∧ left ≤ 7) ∧ Tn w wr [r, c, l])
  case atStart => exact ⟨0, p, left, last, by omega, rfl, rfl, rfl, ⟨H.out, h7⟩, Tn.refl _ _⟩
  case round =>
    obtain ⟨had, p, left, last, hk, rfl, rfl, rfl, ⟨R, l7⟩, T⟩ := hrel
    have HR := Lib.hid R
    have HT := Lib.hid T
    clear R T
    by_cases hlt : had < n
    · have vlt := bitsV_lt true s a had
      obtain ⟨v, hv⟩ : ∃ v, bitsV true s a had = v := ⟨_, rfl⟩
      rw [hv] at vlt ⊢
      have HV := Lib.hid hv
      have KF := Lib.hid (fill_any m r c l s (a + had) true p left last wr HR.out (by omega))
      clear hv
      go_wp2_with fail
      refine KF.out.mono ?_
      rintro e w1 ⟨p1, left1, last1, rfl, ⟨R1, hl1⟩, T1⟩
      have HR1 := Lib.hid R1
      have HT1 := Lib.hid (HT.out.trans T1)
      have d1 := R1.bt.c1
      have d2 := R1.bt.c2
      have d3 := R1.bt.c3
      have d4 := R1.bt.c4
      have z2 := R1.bt.free 2
      have pos1 := R1.pos
      have l8 := R1.l8
      have sp1 := R1.so.pt
      clear R1 T1 KF
      obtain ⟨q, rfl⟩ : ∃ q, p1 = q + 1 := ⟨p1 - 1, by omega⟩
      have hq : q < s.size := by omega
      have el := HR1.out.la q hq rfl hl1
      rw [el] at d1
      obtain ⟨part, hpart⟩ : ∃ part, min (n - had) left1 = part := ⟨_, rfl⟩
      have ep : min ((n : Int) - had) (left1 : Int) = (part : Int) := by omega
      have p1 : part ≤ left1 := by omega
      have p2 : part ≤ n - had := by omega
      have p3 : 1 ≤ part := by omega
      have hcut := cut_is true s q left1 part hq l8 p1
      rw [show 8 * q + (8 - left1) = a + had from by omega] at hcut
      have KC := fun w => cutLow_calls (s[q].toNat) left1 part w s[q].toNat_lt p1 l8
      rw [hcut] at KC
      have plt := bitsV_lt true s (a + had) part
      have hadd := bits_add true s a had part
      obtain ⟨x, hx⟩ : ∃ x, bitsV true s (a + had) part = x := ⟨_, rfl⟩
      rw [hx] at KC plt hadd
      rw [HV.out] at hadd
      have KJ := fun w => joinLow_calls v had x part w vlt plt (by omega)
      rw [← hadd] at KJ
      have HC := Lib.hid KC
      have HJ := Lib.hid KJ
      obtain ⟨b, hb⟩ : ∃ b : Int, (s[q].toNat : Int) = b := ⟨_, rfl⟩
      rw [hb] at d1 HC
      clear KC KJ hcut hadd hx hpart vlt plt el hb
      simp only [cutF, joinF, if_true] at d3 d4
      go_wp2_with fail
      go_quiet ((first
        | (go_at_call 44; exact quiet_w (HC.out _))
        | (go_at_call 45; exact quiet_w (HJ.out _))))
      refine abs_b (R := fun w2 => RS m r c l s (a + had) true (q + 1) left1 last1 w2 ∧ Tn w w2 [r, c, l]) ⟨HR1.out.go (gb_drewN _ _ none), HT1.out.dn⟩ (fun w2 I2 => ?_)
      clear d1 d2 d3 d4 z2 HT1
      have HI := Lib.hid I2
      have d2 := I2.1.bt.c2
      have z2 := I2.1.bt.free 2
      clear I2
      go_wp2
      go_roundg (n + 1 - (had + part))
      case measure => omega
      case rel =>
        have TT : Tn w2 (w2.setCell ⟨r, 2, none⟩ (.int .i64 ((left1 : Int) - part))) [r] := (Tn.refl w2 [r]).st (by simp)
        have B2 := HI.out.1.bt.set2 ((left1 : Int) - part)
        rw [show ((left1 : Int) - part) = ((left1 - part : Nat) : Int) from by omega] at B2 TT ⊢
        have rc := HI.out.1.bt.rc
        have rl := HI.out.1.rl
        refine ⟨had + part, q + 1, left1 - part, last1, by omega, rfl, rfl, by go_num, ⟨⟨B2, HI.out.1.so.turned TT (by simpa using rc.symm), HI.out.1.led.turned TT (by simpa using rl.symm), rl, by omega, by omega, fun q' hq' e' h' => HI.out.1.la q' hq' e' hl1, HI.out.1.sm, HI.out.1.mb⟩, by omega⟩, HI.out.2.trans (TT.mono (by simp))⟩
    · have hkn : had = n := by omega
      subst hkn
      go_wp2
      go_ret2
      exact ⟨p, left, last, rfl, ⟨HR.out, l7⟩, HT.out⟩

set_option maxRecDepth 100000 in
set_option maxHeartbeats 4000000 in
theorem end_high (m r c l : Nat) (s : ByteArray) (a n : Nat) (p left : Nat) (last : Int) (w : World) (h : RS m r c l s a false p left last w) (h7 : left ≤ 7) (hn : n ≤ 32) (hs : 8 * s.size < a + n) :
    Calls Try.prog 18 #[.pointer (some ⟨r, 0, none⟩), .int .i64 n] w
      fun e w' => e = .returned (.tuple #[.int .i64 0, .bool false]) ∧ So c l s s.size 0 s.size w' ∧ Tn w w' [r, c, l] := by
  have H := Lib.hid h
  clear h
  go_enter Try.func18, Try.ntmps18
  go_wp2_with fail
  go_loopg [6, 7] (n + 1) (fun q vv hv wr => ∃ (had p left : Nat) (last : Int), had ≤ n ∧ q = n + 1 - had ∧ vv = .int .i64 (bitsV false s a had) ∧ hv = .int .i64 had ∧ (RS m r c l s (a + had) false p left last wr ∧ left ≤ 7) ∧ Tn w wr [r, c, l])
  case atStart => exact ⟨0, p, left, last, by omega, rfl, rfl, rfl, ⟨H.out, h7⟩, Tn.refl _ _⟩
  case round =>
    obtain ⟨had, p, left, last, hk, rfl, rfl, rfl, ⟨R, l7⟩, T⟩ := hrel
    have HR := Lib.hid R
    have HT := Lib.hid T
    clear R T
    have hav := HR.out.pos
    have hat := HR.out.so.pt
    have hlt : had < n := by omega
    by_cases hmore : a + had < 8 * s.size
    · have vlt := bitsV_lt false s a had
      obtain ⟨v, hv⟩ : ∃ v, bitsV false s a had = v := ⟨_, rfl⟩
      rw [hv] at vlt ⊢
      have HV := Lib.hid hv
      have KF := Lib.hid (fill_any m r c l s (a + had) false p left last wr HR.out hmore)
      clear hv
      go_wp2_with fail
      refine KF.out.mono ?_
      rintro e w1 ⟨p1, left1, last1, rfl, ⟨R1, hl1⟩, T1⟩
      have HR1 := Lib.hid R1
      have HT1 := Lib.hid (HT.out.trans T1)
      have d1 := R1.bt.c1
      have d2 := R1.bt.c2
      have d3 := R1.bt.c3
      have d4 := R1.bt.c4
      have z2 := R1.bt.free 2
      have pos1 := R1.pos
      have l8 := R1.l8
      have sp1 := R1.so.pt
      clear R1 T1 KF
      obtain ⟨q, rfl⟩ : ∃ q, p1 = q + 1 := ⟨p1 - 1, by omega⟩
      have hq : q < s.size := by omega
      have el := HR1.out.la q hq rfl hl1
      rw [el] at d1
      obtain ⟨part, hpart⟩ : ∃ part, min (n - had) left1 = part := ⟨_, rfl⟩
      have ep : min ((n : Int) - had) (left1 : Int) = (part : Int) := by omega
      have p1 : part ≤ left1 := by omega
      have p2 : part ≤ n - had := by omega
      have p3 : 1 ≤ part := by omega
      have hcut := cut_is false s q left1 part hq l8 p1
      rw [show 8 * q + (8 - left1) = a + had from by omega] at hcut
      have KC := fun w => cutHigh_calls (s[q].toNat) left1 part w s[q].toNat_lt p1 l8
      rw [hcut] at KC
      have plt := bitsV_lt false s (a + had) part
      have hadd := bits_add false s a had part
      obtain ⟨x, hx⟩ : ∃ x, bitsV false s (a + had) part = x := ⟨_, rfl⟩
      rw [hx] at KC plt hadd
      rw [HV.out] at hadd
      have KJ := fun w => joinHigh_calls v had x part w vlt plt (by omega)
      rw [← hadd] at KJ
      have HC := Lib.hid KC
      have HJ := Lib.hid KJ
      obtain ⟨b, hb⟩ : ∃ b : Int, (s[q].toNat : Int) = b := ⟨_, rfl⟩
      rw [hb] at d1 HC
      clear KC KJ hcut hadd hx hpart vlt plt el hb
      simp only [cutF, joinF, Bool.false_eq_true, if_false] at d3 d4
      go_wp2_with fail
      go_quiet ((first
        | (go_at_call 46; exact quiet_w (HC.out _))
        | (go_at_call 47; exact quiet_w (HJ.out _))))
      refine abs_b (R := fun w2 => RS m r c l s (a + had) false (q + 1) left1 last1 w2 ∧ Tn w w2 [r, c, l]) ⟨HR1.out.go (gb_drewN _ _ none), HT1.out.dn⟩ (fun w2 I2 => ?_)
      clear d1 d2 d3 d4 z2 HT1
      have HI := Lib.hid I2
      have d2 := I2.1.bt.c2
      have z2 := I2.1.bt.free 2
      clear I2
      go_wp2
      go_roundg (n + 1 - (had + part))
      case measure => omega
      case rel =>
        have TT : Tn w2 (w2.setCell ⟨r, 2, none⟩ (.int .i64 ((left1 : Int) - part))) [r] := (Tn.refl w2 [r]).st (by simp)
        have B2 := HI.out.1.bt.set2 ((left1 : Int) - part)
        rw [show ((left1 : Int) - part) = ((left1 - part : Nat) : Int) from by omega] at B2 TT ⊢
        have rc := HI.out.1.bt.rc
        have rl := HI.out.1.rl
        refine ⟨had + part, q + 1, left1 - part, last1, by omega, rfl, rfl, by go_num, ⟨⟨B2, HI.out.1.so.turned TT (by simpa using rc.symm), HI.out.1.led.turned TT (by simpa using rl.symm), rl, by omega, by omega, fun q' hq' e' h' => HI.out.1.la q' hq' e' hl1, HI.out.1.sm, HI.out.1.mb⟩, by omega⟩, HI.out.2.trans (TT.mono (by simp))⟩
    · have KE := Lib.hid (fill_end m r c l s (a + had) false p left last wr HR.out (by omega))
      go_wp2_with fail
      refine KE.out.mono ?_
      rintro e w1 ⟨rfl, ⟨S1, _⟩, T1⟩
      have HS := Lib.hid S1
      have HT1 := Lib.hid (HT.out.trans T1)
      clear S1 T1
      go_wp2
      go_ret2
      exact ⟨rfl, HS.out, HT1.out⟩

set_option maxRecDepth 100000 in
set_option maxHeartbeats 4000000 in
theorem end_low (m r c l : Nat) (s : ByteArray) (a n : Nat) (p left : Nat) (last : Int) (w : World) (h : RS m r c l s a true p left last w) (h7 : left ≤ 7) (hn : n ≤ 32) (hs : 8 * s.size < a + n) :
    Calls Try.prog 18 #[.pointer (some ⟨r, 0, none⟩), .int .i64 n] w
      fun e w' => e = .returned (.tuple #[.int .i64 0, .bool false]) ∧ So c l s s.size 0 s.size w' ∧ Tn w w' [r, c, l] := by
  have H := Lib.hid h
  clear h
  go_enter Try.func18, Try.ntmps18
  go_wp2_with fail
  go_loopg [6, 7] (n + 1) (fun q vv hv wr => ∃ (had p left : Nat) (last : Int), had ≤ n ∧ q = n + 1 - had ∧ vv = .int .i64 (bitsV true s a had) ∧ hv = .int .i64 had ∧ (RS m r c l s (a + had) true p left last wr ∧ left ≤ 7) ∧ Tn w wr [r, c, l])
  case atStart => exact ⟨0, p, left, last, by omega, rfl, rfl, rfl, ⟨H.out, h7⟩, Tn.refl _ _⟩
  case round =>
    obtain ⟨had, p, left, last, hk, rfl, rfl, rfl, ⟨R, l7⟩, T⟩ := hrel
    have HR := Lib.hid R
    have HT := Lib.hid T
    clear R T
    have hav := HR.out.pos
    have hat := HR.out.so.pt
    have hlt : had < n := by omega
    by_cases hmore : a + had < 8 * s.size
    · have vlt := bitsV_lt true s a had
      obtain ⟨v, hv⟩ : ∃ v, bitsV true s a had = v := ⟨_, rfl⟩
      rw [hv] at vlt ⊢
      have HV := Lib.hid hv
      have KF := Lib.hid (fill_any m r c l s (a + had) true p left last wr HR.out hmore)
      clear hv
      go_wp2_with fail
      refine KF.out.mono ?_
      rintro e w1 ⟨p1, left1, last1, rfl, ⟨R1, hl1⟩, T1⟩
      have HR1 := Lib.hid R1
      have HT1 := Lib.hid (HT.out.trans T1)
      have d1 := R1.bt.c1
      have d2 := R1.bt.c2
      have d3 := R1.bt.c3
      have d4 := R1.bt.c4
      have z2 := R1.bt.free 2
      have pos1 := R1.pos
      have l8 := R1.l8
      have sp1 := R1.so.pt
      clear R1 T1 KF
      obtain ⟨q, rfl⟩ : ∃ q, p1 = q + 1 := ⟨p1 - 1, by omega⟩
      have hq : q < s.size := by omega
      have el := HR1.out.la q hq rfl hl1
      rw [el] at d1
      obtain ⟨part, hpart⟩ : ∃ part, min (n - had) left1 = part := ⟨_, rfl⟩
      have ep : min ((n : Int) - had) (left1 : Int) = (part : Int) := by omega
      have p1 : part ≤ left1 := by omega
      have p2 : part ≤ n - had := by omega
      have p3 : 1 ≤ part := by omega
      have hcut := cut_is true s q left1 part hq l8 p1
      rw [show 8 * q + (8 - left1) = a + had from by omega] at hcut
      have KC := fun w => cutLow_calls (s[q].toNat) left1 part w s[q].toNat_lt p1 l8
      rw [hcut] at KC
      have plt := bitsV_lt true s (a + had) part
      have hadd := bits_add true s a had part
      obtain ⟨x, hx⟩ : ∃ x, bitsV true s (a + had) part = x := ⟨_, rfl⟩
      rw [hx] at KC plt hadd
      rw [HV.out] at hadd
      have KJ := fun w => joinLow_calls v had x part w vlt plt (by omega)
      rw [← hadd] at KJ
      have HC := Lib.hid KC
      have HJ := Lib.hid KJ
      obtain ⟨b, hb⟩ : ∃ b : Int, (s[q].toNat : Int) = b := ⟨_, rfl⟩
      rw [hb] at d1 HC
      clear KC KJ hcut hadd hx hpart vlt plt el hb
      simp only [cutF, joinF, if_true] at d3 d4
      go_wp2_with fail
      go_quiet ((first
        | (go_at_call 44; exact quiet_w (HC.out _))
        | (go_at_call 45; exact quiet_w (HJ.out _))))
      refine abs_b (R := fun w2 => RS m r c l s (a + had) true (q + 1) left1 last1 w2 ∧ Tn w w2 [r, c, l]) ⟨HR1.out.go (gb_drewN _ _ none), HT1.out.dn⟩ (fun w2 I2 => ?_)
      clear d1 d2 d3 d4 z2 HT1
      have HI := Lib.hid I2
      have d2 := I2.1.bt.c2
      have z2 := I2.1.bt.free 2
      clear I2
      go_wp2
      go_roundg (n + 1 - (had + part))
      case measure => omega
      case rel =>
        have TT : Tn w2 (w2.setCell ⟨r, 2, none⟩ (.int .i64 ((left1 : Int) - part))) [r] := (Tn.refl w2 [r]).st (by simp)
        have B2 := HI.out.1.bt.set2 ((left1 : Int) - part)
        rw [show ((left1 : Int) - part) = ((left1 - part : Nat) : Int) from by omega] at B2 TT ⊢
        have rc := HI.out.1.bt.rc
        have rl := HI.out.1.rl
        refine ⟨had + part, q + 1, left1 - part, last1, by omega, rfl, rfl, by go_num, ⟨⟨B2, HI.out.1.so.turned TT (by simpa using rc.symm), HI.out.1.led.turned TT (by simpa using rl.symm), rl, by omega, by omega, fun q' hq' e' h' => HI.out.1.la q' hq' e' hl1, HI.out.1.sm, HI.out.1.mb⟩, by omega⟩, HI.out.2.trans (TT.mono (by simp))⟩
    · have KE := Lib.hid (fill_end m r c l s (a + had) true p left last wr HR.out (by omega))
      go_wp2_with fail
      refine KE.out.mono ?_
      rintro e w1 ⟨rfl, ⟨S1, _⟩, T1⟩
      have HS := Lib.hid S1
      have HT1 := Lib.hid (HT.out.trans T1)
      clear S1 T1
      go_wp2
      go_ret2
      exact ⟨rfl, HS.out, HT1.out⟩

theorem read_bad (r : Nat) (n : Int) (w : World) (hn : n < 0 ∨ 32 < n) :
    Calls Try.prog 18 #[.pointer (some ⟨r, 0, none⟩), .int .i64 n] w fun e w' => e = .returned (.tuple #[.int .i64 0, .bool false]) ∧ w = w' := by
  by_cases h : n < 0
  · clear hn
    go_enter Try.func18, Try.ntmps18
    go_wp2
    go_ret2
    exact ⟨rfl, rfl⟩
  · have h' : 32 < n := by omega
    clear hn
    go_enter Try.func18, Try.ntmps18
    go_wp2
    go_ret2
    exact ⟨rfl, rfl⟩

/-- Read, of bits that are there. -/
theorem read_yes (low : Bool) (m r c l : Nat) (s : ByteArray) (a n : Nat) (p left : Nat) (last : Int) (w : World) (h : RS m r c l s a low p left last w) (h7 : left ≤ 7) (hn : n ≤ 32) (hs : a + n ≤ 8 * s.size) :
    Calls Try.prog 18 #[.pointer (some ⟨r, 0, none⟩), .int .i64 n] w
      fun e w' => ∃ (p' left' : Nat) (last' : Int), e = .returned (.tuple #[.int .i64 (bitsV low s a n), .bool true]) ∧ (RS m r c l s (a + n) low p' left' last' w' ∧ left' ≤ 7) ∧ Tn w w' [r, c, l] := by
  cases low
  · exact read_high m r c l s a n p left last w h h7 hn hs
  · exact read_low m r c l s a n p left last w h h7 hn hs
/-- Read, of more bits than are there. -/
theorem read_end (low : Bool) (m r c l : Nat) (s : ByteArray) (a n : Nat) (p left : Nat) (last : Int) (w : World) (h : RS m r c l s a low p left last w) (h7 : left ≤ 7) (hn : n ≤ 32) (hs : 8 * s.size < a + n) :
    Calls Try.prog 18 #[.pointer (some ⟨r, 0, none⟩), .int .i64 n] w
      fun e w' => e = .returned (.tuple #[.int .i64 0, .bool false]) ∧ So c l s s.size 0 s.size w' ∧ Tn w w' [r, c, l] := by
  cases low
  · exact end_high m r c l s a n p left last w h h7 hn hs
  · exact end_low m r c l s a n p left last w h h7 hn hs

end Go.Proofs.Ythgpjdnppknghaa.Bi
