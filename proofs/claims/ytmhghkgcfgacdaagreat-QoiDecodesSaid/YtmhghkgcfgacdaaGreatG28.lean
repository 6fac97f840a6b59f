/- Texts of one kind, one behind the other: Qo7. -/
import Derived.Test.YtmhghkgcfgacdaaGreatG27
/- Layer 26: the bytes behind the pixels, by any ledger. (Written by gen/qo7.py.) -/
namespace Go.Proofs.YtmhghkgcfgacdaaGreat.Qo
open Go.ChangeShapes Go.WideShapes Go.ChangeAt Go.RowKit
open Go.Proofs.YtmhghkgcfgacdaaGreat.Le Go.Proofs.YtmhghkgcfgacdaaGreat.Tk Go.Proofs.YtmhghkgcfgacdaaGreat.Sr Go.Proofs.YtmhghkgcfgacdaaGreat.Sh Go.Proofs.YtmhghkgcfgacdaaGreat.Qw
open Go.Proofs.YtmhghkgcfgacdaaGreat.Ra hiding bt
set_option linter.unusedVariables false

theorem e8_at (i : Nat) (h : i < (⟨#[0, 0, 0, 0, 0, 0, 0, 1]⟩ : ByteArray).size) : ((⟨#[0, 0, 0, 0, 0, 0, 0, 1]⟩ : ByteArray)[i]'h).toNat = endB i := by
  have h8 : i < 8 := h
  have : i = 0 ∨ i = 1 ∨ i = 2 ∨ i = 3 ∨ i = 4 ∨ i = 5 ∨ i = 6 ∨ i = 7 := by omega
  rcases this with rfl | rfl | rfl | rfl | rfl | rfl | rfl | rfl <;> rfl
/-- What is known of the bytes behind the pixels, of which i were right. -/
structure EF (s : ByteArray) (p0 N0 f p N k i : Nat) : Prop where
  n : i < 8 → N0 + i + 1 ≤ N
  short : i < 8 → s.size ≤ p0 + i → f = 1 ∧ p = s.size
  bad : i < 8 → p0 + i < s.size → bt s (p0 + i) ≠ endB i → f = 2 ∧ p = p0 + i
  go : i < 8 → p0 + i < s.size → bt s (p0 + i) = endB i → i + 1 ≤ k
  done : ¬ i < 8 → f = 0
theorem ef_of {s : ByteArray} {p0 N0 f p N : Nat} (h : EndQ s p0 N0 f p N) : ∃ k, k ≤ 8 ∧ ∀ i, i ≤ k → EF s p0 N0 f p N k i := by
  obtain ⟨k, ha, hc⟩ := h
  refine ⟨k, by omega, fun i hi => ?_⟩
  by_cases e : i < k
  · have h1 := ha i e
    have h2 := h1.2
    have h3 := h1.1
    exact ⟨fun _ => by omega, fun _ _ => by omega, fun _ _ q => absurd h2 q, fun _ _ _ => e, fun _ => by omega⟩
  · have e2 : i = k := by omega
    subst e2
    rcases hc with ⟨c1, c2, c3, c4⟩ | ⟨c1, c2, c3, c4, c5⟩ | ⟨c1, c2, c3, c4, c5, c6⟩
    · exact ⟨fun _ => by omega, fun _ _ => by omega, fun _ _ _ => by omega, fun _ _ _ => by omega, fun _ => c2⟩
    · exact ⟨fun _ => by omega, fun _ _ => ⟨c3, c4⟩, fun _ _ _ => by omega, fun _ _ _ => by omega, fun _ => by omega⟩
    · exact ⟨fun _ => by omega, fun _ _ => by omega, fun _ _ _ => ⟨c4, c5⟩, fun _ _ q => absurd q c3, fun _ => by omega⟩
/-- Behind the bytes that stand behind the pixels. -/
def RE (W : World) (c l f p N : Nat) (s : ByteArray) (x : St) (e : Ending) (w' : World) : Prop :=
  ∃ (q : Nat) (y : St), Rd c l s q y w' ∧ Tn W w' [c, l] ∧ Lm x y ∧ y.by_ = x.by_ ∧
    ((f = 0 ∧ e = .returned okT ∧ y.r = 0) ∨ (f ≠ 0 ∧ e = .returned (flF 5 f p) ∧ y.r = 0) ∨
     (x.s < x.st + (N : Int) ∧ (∃ j : Nat, j ≤ s.size ∧ e = .returned (flF 5 4 j)) ∧ y.r ≠ 0))
/-- What its loop carries. -/
structure EI (W : World) (c l p0 N0 b0 i : Nat) (s : ByteArray) (x : St) (w : World) : Prop where
  rd : Rd c l s (p0 + i) (stp x (N0 + i)) w
  fl : Fl b0 0 0 0 w
  tn : Tn W w [c, l]

set_option maxRecDepth 100000 in
set_option maxHeartbeats 2000000 in
theorem end_calls (c l f p p0 N0 N : Nat) (s : ByteArray) (x : St) (W : World) (R : Rd c l s p0 (stp x N0) W) (hr : x.r = 0) (E : EndQ s p0 N0 f p N) :
    Calls Tryz.prog 50 #[.pointer (some ⟨c, 0, none⟩)] W (RE W c l f p N s x) := by
  obtain ⟨Q, hQ⟩ : ∃ Q, RE W c l f p N s x = Q := ⟨_, rfl⟩
  rw [hQ]
  have HQ := Lib.hid hQ
  obtain ⟨k, hk8, hef⟩ := ef_of E
  have HE := Lib.hid hef
  have HK := Lib.hid hk8
  have g0 := World.grownBy_alloc W (.cells #[.int .i64 0, .int .i64 0, .int .i64 0] 29) none
  have I0 : EI W c l p0 N0 W.heap.size 0 s x (W.alloc (.cells #[.int .i64 0, .int .i64 0, .int .i64 0] 29)) := ⟨R.grown g0, Fl.new W, Tn.gb g0 (by simp)⟩
  have hc := R.clt
  have hl := R.llt
  obtain ⟨b0, hb0⟩ : ∃ i, W.heap.size = i := ⟨_, rfl⟩
  rw [hb0] at I0 hc hl
  have HI0 := Lib.hid I0
  have HZ := Lib.hid hb0
  have HX := Lib.hid hr
  have HN1 := Lib.hid (show c ∉ [b0] ∧ l ∉ [b0] from ⟨by simp; omega, by simp; omega⟩)
  have HN2 := Lib.hid (show b0 ∉ [c, l] by simp; omega)
  clear hQ E hef hk8 g0 I0 R hr hc hl
  go_enter Tryz.func50, Tryz.ntmps50
  go_wp2_with fail
  generalize W.alloc (.cells #[.int .i64 0, .int .i64 0, .int .i64 0] 29) = w0 at HI0 ⊢
  clear hb0
  go_loopg [7] 8 (fun q iv wr => ∃ i : Nat, i ≤ k ∧ q = 8 - i ∧ iv = .int .i64 i ∧ EI W c l p0 N0 b0 i s x wr)
  case atStart => exact ⟨0, Nat.zero_le _, rfl, rfl, HI0.out⟩
  case round =>
    clear HI0
    obtain ⟨i, hik, rfl, rfl, I⟩ := hrel
    have HI := Lib.hid I
    have HF := Lib.hid (HE.out i hik)
    have i8 : i ≤ 8 := by have := HK.out; omega
    clear I hik
    by_cases hi : i < 8
    · have d0 : decide ((i : Int) < 8) = true := decide_eq_true (by omega)
      have d1 : (i : Int) < 8 := by omega
      have hrr : (stp x (N0 + i)).r = 0 := HX.out
      have KA := Lib.hid (at_rd c l s _ _ wr HI.out.rd)
      have HI8 := Lib.hid hi
      clear i8
      go_wp2_with fail
      refine KA.out.mono ?_
      rintro e w' ⟨rfl, rfl⟩
      clear KA
      by_cases hu : s.size < p0 + i + 1 ∨ (stp x (N0 + i)).s < (stp x (N0 + i)).st + 1
      · obtain ⟨y, k2, jj, hno, KU, KF⟩ := u8_n HI.out.rd hrr hu
        have KU := Lib.hid KU
        have HKF := Lib.hid (fun u => KF 5 u)
        have HNO := Lib.hid hno
        clear hno hu KF hi
        go_wp2_with fail
        refine KU.out.mono ?_
        rintro e w2 ⟨rfl, R2, T2⟩
        have KF := Lib.hid (HKF.out w2 R2)
        have HF2 := Lib.hid (HI.out.fl.turned T2 HN2.out)
        have HT2 := Lib.hid (HI.out.tn.trans T2)
        clear KU R2 T2 HKF
        go_wp2_with fail
        refine KF.out.mono ?_
        rintro e w8 ⟨rfl, R8, g8⟩
        have F8 := HF2.out.turned (Tn.gb g8 (S := []) (by simp)) (by simp)
        have HT8 := Lib.hid (HT2.out.trans (Tn.gb g8 (by simp)))
        have HR8 := Lib.hid R8
        clear R8 g8 HF2 HT2 KF
        have q0 := F8.c0
        have q1 := F8.c1
        have q2 := F8.c2
        have qf0 := F8.free 0
        have qf1 := F8.free 1
        have qf2 := F8.free 2
        go_wp2
        refine bodyPost_ret (v := flF 5 k2 jj) (by simp only [results, Tryz.results50, flF]; go_simp) rfl ?_
        rw [← HQ.out]
        have t6 : Tn w8 (((w8.setCell ⟨b0, 0, none⟩ (.int .i64 k2)).setCell ⟨b0, 1, none⟩ (.int .i64 5)).setCell ⟨b0, 2, none⟩ (.int .i64 jj)) [b0] := (((Tn.refl w8 [b0]).st (by simp)).st (by simp)).st (by simp)
        refine ⟨_, _, rd_own HR8.out t6 HN1.out.1 HN1.out.2, HT8.out.over t6 (by intro i hi; simp at hi; left; rw [HZ.out, hi]; exact Nat.le_refl _), (lm_stp x _).trans (nor_lm HNO.out (c := c) (l := l)), ?_⟩
        refine ⟨?_, ?_⟩
        · rcases HNO.out with ⟨_, _, rfl, _⟩ | ⟨_, rfl, _⟩ <;> rfl
        · rcases HNO.out with ⟨a1, a2, rfl, rfl, rfl⟩ | ⟨a1, rfl, rfl, rfl⟩
          · have h2 := HF.out.short HI8.out (by omega)
            exact .inr (.inl ⟨by rw [h2.1]; decide, by rw [h2.1, h2.2]; rfl, HX.out⟩)
          · refine .inr (.inr ⟨?_, ⟨p0 + i, HI.out.rd.so.pt, rfl⟩, by show (3 : Int) ≠ 0; decide⟩)
            have h2 := HF.out.n HI8.out
            rw [stp_s, stp_t] at a1
            omega
      · have hp : p0 + i < s.size := by omega
        have hst : (stp x (N0 + i)).st + 1 ≤ (stp x (N0 + i)).s := by omega
        have KU := u8_byte c l s _ _ wr HI.out.rd hrr hst hp
        rw [stp_stp] at KU
        obtain ⟨b, hb⟩ : ∃ b, bt s (p0 + i) = b := ⟨_, rfl⟩
        rw [hb] at KU
        have KU := Lib.hid KU
        have HB := Lib.hid hb
        have HPS := Lib.hid hp
        have ye := fun h => e8_at i h
        have hz : i < (⟨#[0, 0, 0, 0, 0, 0, 0, 1]⟩ : ByteArray).size := hi
        have hz8 : (⟨#[0, 0, 0, 0, 0, 0, 0, 1]⟩ : ByteArray).size = 8 := rfl
        obtain ⟨ev, hev⟩ : ∃ v, endB i = v := ⟨_, rfl⟩
        have HEV := Lib.hid hev
        have ev2 : ev < 2 := by rw [← hev]; unfold endB; split <;> omega
        have w1 : IntKind.i64.wrap (ev : Int) = (ev : Int) := IntWalk.i64_in _ (by omega)
        have w2i : IntKind.i64.wrap ((i : Int) + 1) = (i : Int) + 1 := IntWalk.i64_in _ (by omega)
        simp only [hev] at ye
        clear hu hp hst hb hev
        by_cases hbe : b = ev
        · have e1 : ((b : Int) == (ev : Int)) = true := by rw [hbe]; exact beq_self_eq_true _
          have e2 : ((b : Int) != (ev : Int)) = false := by rw [hbe]; exact bne_self_eq_false _
          have HBE := Lib.hid hbe
          clear hbe hi
          go_wp2_with fail
          refine KU.out.mono ?_
          rintro e w2 ⟨rfl, R2, T2⟩
          have HI2 := Lib.hid (show EI W c l p0 N0 b0 (i + 1) s x w2 from ⟨R2, HI.out.fl.turned T2 HN2.out, HI.out.tn.trans T2⟩)
          clear R2 T2 KU
          go_wp2
          go_roundg (8 - (i + 1))
          case measure => have := HI8.out; omega
          case rel => exact ⟨i + 1, HF.out.go HI8.out HPS.out (by rw [HB.out, HEV.out, HBE.out]), rfl, by go_num, HI2.out⟩
        · have e1 : ((b : Int) == (ev : Int)) = false := by rw [beq_eq_false_iff_ne]; omega
          have e2 : ((b : Int) != (ev : Int)) = true := by rw [bne_iff_ne]; omega
          have HBE := Lib.hid hbe
          clear hbe hi
          go_wp2_with fail
          refine KU.out.mono ?_
          rintro e w2 ⟨rfl, R2, T2⟩
          have HF2 := Lib.hid (HI.out.fl.turned T2 HN2.out)
          have HT2 := Lib.hid (HI.out.tn.trans T2)
          have HR2 := Lib.hid R2
          have KQ := Lib.hid (qfault_calls 2 ((p0 + i : Nat) : Int) w2)
          unfold flF at KQ
          clear R2 T2 KU
          go_wp2_with fail
          refine KQ.out.mono ?_
          rintro e w8 ⟨rfl, g8⟩
          have F8 := HF2.out.turned (Tn.gb g8 (S := []) (by simp)) (by simp)
          have HT8 := Lib.hid (HT2.out.trans (Tn.gb g8 (by simp)))
          have HR8 := Lib.hid (HR2.out.grown g8)
          clear g8 HF2 HT2 HR2 KQ
          have q0 := F8.c0
          have q1 := F8.c1
          have q2 := F8.c2
          have qf0 := F8.free 0
          have qf1 := F8.free 1
          have qf2 := F8.free 2
          go_wp2
          refine bodyPost_ret (v := flF 5 2 ((p0 + i : Nat) : Int)) (by simp only [results, Tryz.results50, flF]; go_simp) rfl ?_
          rw [← HQ.out]
          have t6 : Tn w8 (((w8.setCell ⟨b0, 0, none⟩ (.int .i64 2)).setCell ⟨b0, 1, none⟩ (.int .i64 5)).setCell ⟨b0, 2, none⟩ (.int .i64 ((p0 + i : Nat) : Int))) [b0] := (((Tn.refl w8 [b0]).st (by simp)).st (by simp)).st (by simp)
          refine ⟨_, _, rd_own HR8.out t6 HN1.out.1 HN1.out.2, HT8.out.over t6 (by intro i hi; simp at hi; left; rw [HZ.out, hi]; exact Nat.le_refl _), lm_stp x _, ?_⟩
          have h2 := HF.out.bad HI8.out HPS.out (by rw [HB.out, HEV.out]; exact HBE.out)
          exact ⟨rfl, .inr (.inl ⟨by rw [h2.1]; decide, by rw [h2.1, h2.2]; rfl, HX.out⟩)⟩
    · have d0 : decide ((i : Int) < 8) = false := decide_eq_false (by omega)
      have d1 : ¬ (i : Int) < 8 := by omega
      have hf := HF.out.done hi
      have HD := Lib.hid hf
      have F8 := HI.out.fl
      have q0 := F8.c0
      have q1 := F8.c1
      have q2 := F8.c2
      have qf0 := F8.free 0
      have qf1 := F8.free 1
      have qf2 := F8.free 2
      clear F8 hf
      go_wp2
      refine bodyPost_ret (v := okT) (by simp only [results, Tryz.results50, okT]; go_simp) rfl ?_
      rw [← HQ.out]
      have t6 : Tn wr (((wr.setCell ⟨b0, 0, none⟩ (.int .i64 0)).setCell ⟨b0, 1, none⟩ (.int .i64 0)).setCell ⟨b0, 2, none⟩ (.int .i64 0)) [b0] := (((Tn.refl wr [b0]).st (by simp)).st (by simp)).st (by simp)
      exact ⟨_, _, rd_own HI.out.rd t6 HN1.out.1 HN1.out.2, HI.out.tn.over t6 (by intro i hi; simp at hi; left; rw [HZ.out, hi]; exact Nat.le_refl _), lm_stp x _, rfl, .inl ⟨HD.out, rfl, HX.out⟩⟩

end Go.Proofs.YtmhghkgcfgacdaaGreat.Qo
