/- Package bits: the number of the next bits. -/
import Derived.Test.YthgpjdnppknghaaBit3
import Derived.Test.YthgpjdnppknghaaSrcA
import Derived.Deep.LoopGhost
import Derived.Deep.QuietTactic
import Derived.BigQuiet
namespace Go.Proofs.Ythgpjdnppknghaa.Bi
open Go.ChangeShapes Go.WideShapes Go.ChangeAt Go.RowKit
open Go.Proofs.Ythgpjdnppknghaa.Le Go.Proofs.Ythgpjdnppknghaa.Sr
set_option linter.unusedVariables false

/-- A reader of a whole text, a bits of which are read, over a ledger of m steps, one done for each byte. -/
structure RS (m : Nat) (r c l : Nat) (s : ByteArray) (a : Nat) (low : Bool) (p left : Nat) (last : Int) (w : World) : Prop where
  bt : Bt r c last left low w
  so : So c l s p 0 s.size w
  led : Led l (LW m p).ls w
  rl : r ≠ l
  pos : 8 * p = a + left
  l8 : left ≤ 8
  la : ∀ (q : Nat) (h : q < s.size), q + 1 = p → 0 < left → last = (s[q].toNat : Int)
  sm : s.size < m
  mb : m ≤ 9223372036854775807

theorem RS.go {m r c l : Nat} {s : ByteArray} {a : Nat} {low : Bool} {p left : Nat} {last : Int} {w w' : World} (h : RS m r c l s a low p left last w) (g : w.grownBy w' none) : RS m r c l s a low p left last w' :=
  ⟨h.bt.grown g (by simp), h.so.grown g (by simp), h.led.grown g (by simp), h.rl, h.pos, h.l8, h.la, h.sm, h.mb⟩

/-- A byte is there to be cut, or taken. -/
theorem fill_any (m r c l : Nat) (s : ByteArray) (a : Nat) (low : Bool) (p left : Nat) (last : Int) (w : World) (h : RS m r c l s a low p left last w) (hs : a < 8 * s.size) :
    Calls Try.prog 48 #[.pointer (some ⟨r, 0, none⟩)] w
      fun e w' => ∃ (p' left' : Nat) (last' : Int), e = .returned (.bool true) ∧ (RS m r c l s a low p' left' last' w' ∧ 0 < left') ∧ Tn w w' [r, c, l] := by
  by_cases hl : 0 < left
  · exact (fill_some r c last left low w h.bt (by omega)).mono fun e w' ⟨he, hw⟩ => ⟨p, left, last, he, ⟨hw ▸ h, hl⟩, hw ▸ Tn.refl _ _⟩
  · have h0 : left = 0 := by omega
    subst h0
    have hp : p < s.size := by have := h.pos; omega
    have hsm := h.sm
    have hmb := h.mb
    refine (fill_yes r c l s p 0 s.size (LW m p) last low w h.bt h.so h.led (LW_ok (by omega) (by omega) (by omega)) h.rl (LW_rd (by omega) (by decide) (by omega)) hp).mono ?_
    rintro e w' ⟨he, ⟨B, S, L⟩, g⟩
    rw [LW_work (by omega)] at L
    have L' : Led l (LW m ((p + 1 : Nat) : Int)).ls w' := by
      rwa [show ((p + 1 : Nat) : Int) = (p : Int) + 1 from by omega]
    have R : RS m r c l s a low (p + 1) 8 (s[p].toNat : Int) w' :=
      ⟨B, S, L', h.rl, by have := h.pos; omega, Nat.le_refl _, fun q hq e _ => (by have hqp : q = p := (by omega); subst hqp; rfl), h.sm, h.mb⟩
    exact ⟨p + 1, 8, _, he, ⟨R, by decide⟩, g⟩

/-- No byte is there any more. -/
theorem fill_end (m r c l : Nat) (s : ByteArray) (a : Nat) (low : Bool) (p left : Nat) (last : Int) (w : World) (h : RS m r c l s a low p left last w) (hs : a = 8 * s.size) :
    Calls Try.prog 48 #[.pointer (some ⟨r, 0, none⟩)] w
      fun e w' => e = .returned (.bool false) ∧ (So c l s s.size 0 s.size w' ∧ Led l (LW m (s.size + 1)).ls w' ∧ Bt r c last 0 low w') ∧ Tn w w' [r, c, l] := by
  have h1 := h.pos
  have h2 := h.so.pt
  have h0 : left = 0 := by omega
  subst h0
  have hp : p = s.size := by omega
  subst hp
  have hsm := h.sm
  have hmb := h.mb
  refine (fill_no r c l s s.size 0 s.size (LW m s.size) last low w h.bt h.so h.led (LW_ok (by omega) (by omega) (by omega)) h.rl (LW_out (by omega) (by omega))).mono ?_
  rintro e w' ⟨he, ⟨B, S, L⟩, g⟩
  rw [LW_work (by omega)] at L
  exact ⟨he, ⟨S, L, B⟩, Tn.gb g (by simp)⟩

theorem abs_b {Q R : World → Prop} {w : World} (h : R w) (k : ∀ w', R w' → Q w') : Q w := k w h
theorem quiet_w {P : Program} {f : FuncId} {args : Array Value} {w : World} {n : Nat} {v : Value}
    (h : Calls P f args (w.drewN n) fun e w' => e = .returned v ∧ w.drewN n = w') : Calls P f args (w.drewN n) fun e w'' => e = .returned v ∧ ∃ m, w'' = w.drewN m :=
  h.mono fun _ _ ⟨he, hm⟩ => ⟨he, n, hm.symm⟩

set_option maxRecDepth 100000 in
set_option maxHeartbeats 4000000 in
theorem read_high (m r c l : Nat) (s : ByteArray) (a n : Nat) (p left : Nat) (last : Int) (w : World) (h : RS m r c l s a false p left last w) (h7 : left ≤ 7) (hn : n ≤ 32) (hs : a + n ≤ 8 * s.size) :
    Calls Try.prog 18 #[.pointer (some ⟨r, 0, none⟩), .int .i64 n] w
      fun e w' => ∃ (p' left' : Nat) (last' : Int), e = .returned (.tuple #[.int .i64 (bitsV false s a n), .bool true]) ∧ (RS m r c l s (a + n) false p' left' last' w' ∧ left' ≤ 7) ∧ Tn w w' [r, c, l] := by
  have H := Lib.hid h
  clear h
  go_enter Try.func18, Try.ntmps18
  go_wp2_with fail
  go_loopg [6, 7] (n + 1) (fun q vv hv wr => ∃ (had p left : Nat) (last : Int), had ≤ n ∧ q = n + 1 - had ∧ vv = .int .i64 (bitsV false s a had) ∧ hv = .int .i64 had ∧ (RS m r c l s (a + had) false p left last wr ∧ left ≤ 7) ∧ Tn w wr [r, c, l])
  case atStart => exact ⟨0, p, left, last, by omega, rfl, rfl, rfl, ⟨H.out, h7⟩, Tn.refl _ _⟩
  case round =>
    obtain ⟨had, p, left, last, hk, rfl, rfl, rfl, ⟨R, l7⟩, T⟩ := hrel
    have HR := Lib.hid R
    have HT := Lib.hid T
    clear R T
    by_cases hlt : had < n
    · have vlt := bitsV_lt false s a had
      obtain ⟨v, hv⟩ : ∃ v, bitsV false s a had = v := ⟨_, rfl⟩
      rw [hv] at vlt ⊢
      have HV := Lib.hid hv
      have KF := Lib.hid (fill_any m r c l s (a + had) false p left last wr HR.out (by omega))
      clear hv
      go_wp2_with fail
      refine KF.out.mono ?_
      rintro e w1 ⟨p1, left1, last1, rfl, ⟨R1, hl1⟩, T1⟩
      have HR1 := Lib.hid R1
      have HT1 := Lib.hid (HT.out.trans T1)
      have d1 := R1.bt.c1
      have d2 := R1.bt.c2
      have d3 := R1.bt.c3
      have d4 := R1.bt.c4
      have z2 := R1.bt.free 2
      have pos1 := R1.pos
      have l8 := R1.l8
      have sp1 := R1.so.pt
      clear R1 T1 KF
      obtain ⟨q, rfl⟩ : ∃ q, p1 = q + 1 := ⟨p1 - 1, by omega⟩
      have hq : q < s.size := by omega
      have el := HR1.out.la q hq rfl hl1
      rw [el] at d1
      obtain ⟨part, hpart⟩ : ∃ part, min (n - had) left1 = part := ⟨_, rfl⟩
      have ep : min ((n : Int) - had) (left1 : Int) = (part : Int) := by omega
      have p1 : part ≤ left1 := by omega
      have p2 : part ≤ n - had := by omega
      have p3 : 1 ≤ part := by omega
      have hcut := cut_is false s q left1 part hq l8 p1
      rw [show 8 * q + (8 - left1) = a + had from by omega] at hcut
      have KC := fun w => cutHigh_calls (s[q].toNat) left1 part w s[q].toNat_lt p1 l8
      rw [hcut] at KC
      have plt := bitsV_lt false s (a + had) part
      have hadd := bits_add false s a had part
      obtain ⟨x, hx⟩ : ∃ x, bitsV false s (a + had) part = x := ⟨_, rfl⟩
      rw [hx] at KC plt hadd
      rw [HV.out] at hadd
      have KJ := fun w => joinHigh_calls v had x part w vlt plt (by omega)
      rw [← hadd] at KJ
      have HC := Lib.hid KC
      have HJ := Lib.hid KJ
      obtain ⟨b, hb⟩ : ∃ b : Int, (s[q].toNat : Int) = b := ⟨_, rfl⟩
      rw [hb] at d1 HC
      clear KC KJ hcut hadd hx hpart vlt plt el hb
      simp only [cutF, joinF, Bool.false_eq_true, if_false] at d3 d4
      go_wp2_with fail
      go_quiet ((first
        | (go_at_call 46; exact quiet_w (HC.out _))
        | (go_at_call 47; exact quiet_w (HJ.out _))))
      refine abs_b (R := fun w2 => RS m r c l s (a + had) false (q + 1) left1 last1 w2 ∧ Tn w w2 [r, c, l]) ⟨HR1.out.go (gb_drewN _ _ none), HT1.out.dn⟩ (fun w2 I2 => ?_)
      clear d1 d2 d3 d4 z2 HT1
      have HI := Lib.hid I2
      have d2 := I2.1.bt.c2
      have z2 := I2.1.bt.free 2
      clear I2
      go_wp2
      go_roundg (n + 1 - (had + part))
      case measure => omega
      case rel =>
        have TT : Tn w2 (w2.setCell ⟨r, 2, none⟩ (.int .i64 ((left1 : Int) - part))) [r] := (Tn.refl w2 [r]).st (by simp)
        have B2 := HI.out.1.bt.set2 ((left1 : Int) - part)
        rw [show ((left1 : Int) - part) = ((left1 - part : Nat) : Int) from by omega] at B2 TT ⊢
        have rc := HI.out.1.bt.rc
        have rl := HI.out.1.rl
        refine ⟨had + part, q + 1, left1 - part, last1, by omega, rfl, rfl, by go_num, ⟨⟨B2, HI.out.1.so.turned TT (by simpa using rc.symm), HI.out.1.led.turned TT (by simpa using rl.symm), rl, by omega, by omega, fun q' hq' e' h' => HI.out.1.la q' hq' e' hl1, HI.out.1.sm, HI.out.1.mb⟩, by omega⟩, HI.out.2.trans (TT.mono (by simp))⟩
    · have hkn : had = n := by omega
      subst hkn
      go_wp2
      go_ret2
      exact ⟨p, left, last, rfl, ⟨HR.out, l7⟩, HT.out⟩

end Go.Proofs.Ythgpjdnppknghaa.Bi
