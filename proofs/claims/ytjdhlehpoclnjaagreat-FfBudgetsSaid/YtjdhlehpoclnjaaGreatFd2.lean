/- The document's Sides of a farbfeld file; the chapter's example. -/
import Derived.Test.YtjdhlehpoclnjaaGreatFd1
import Derived.Test.YtjdhlehpoclnjaaGreatFf6
import Derived.Test.YtjdhlehpoclnjaaGreatRim2
namespace Go.Proofs.YtjdhlehpoclnjaaGreat.Ff
open Go.ChangeShapes Go.WideShapes Go.ChangeAt Go.RowKit
open Go.Proofs.YtjdhlehpoclnjaaGreat.Le Go.Proofs.YtjdhlehpoclnjaaGreat.Tk Go.Proofs.YtjdhlehpoclnjaaGreat.Sr Go.Proofs.YtjdhlehpoclnjaaGreat.Sh Go.Proofs.YtjdhlehpoclnjaaGreat.Ra
set_option linter.unusedVariables false

set_option maxRecDepth 100000 in
theorem rsides_short (s : ByteArray) (h : s.size < 16) (W : World) :
    Calls Tryz.prog 27 #[.string s] W fun e w' => e = .returned (.tuple #[.int .i64 0, .int .i64 0]) ∧ W.grownBy w' none := by
  have d1 : decide ((s.size : Int) < 16) = true := decide_eq_true (by omega)
  have d1' : (s.size : Int) < 16 := by omega
  clear h
  go_enter Tryz.func27, Tryz.ntmps27
  go_wp2
  go_ret2
  exact ⟨rfl, gb_refl _ _⟩

set_option maxRecDepth 100000 in
theorem rsides_bad (s : ByteArray) (K w h kd pl : Nat) (M : MK sgF s K) (hn : 16 ≤ s.size) (hs : s.size ≤ 9223372036854775807) (ew : beV s 8 = w) (eh : beV s 12 = h) (hkd : kdS 8 K w h = kd) (hpl : plS 8 K w h = pl) (hne : kd ≠ 0) (W : World) :
    Calls Tryz.prog 27 #[.string s] W fun e w' => e = .returned (.tuple #[.int .i64 0, .int .i64 0]) ∧ W.grownBy w' none := by
  have KC := fun u => check_calls s K w h kd pl M hn hs ew eh hkd hpl u
  unfold imB at KC
  have KC := Lib.hid KC
  have hfl : ∀ w, (Instr.field 39 (.agg #[.int .i64 0, .int .i64 0, .slice none 0 0, .int .i64 kd, .int .i64 pl]) 3).run Tryz.prog w = .ok (.int .i64 kd) w := fun w => by kernel_rfl
  have d1 : decide ((s.size : Int) < 16) = false := decide_eq_false (by omega)
  have d1' : ¬ (s.size : Int) < 16 := by omega
  have d2 : ((kd : Int) != 0) = true := by rw [bne_iff_ne]; omega
  have d2' : ¬ (kd : Int) = 0 := by omega
  clear M hn hs ew eh hkd hpl hne
  go_enter Tryz.func27, Tryz.ntmps27
  go_wp2_with fail
  refine (KC.out _).mono ?_
  rintro e w1 ⟨rfl, g1⟩
  have HG := Lib.hid g1
  clear g1
  go_wp2
  go_ret2
  exact ⟨rfl, HG.out⟩

set_option maxRecDepth 100000 in
theorem rsides_ok (s : ByteArray) (w h : Nat) (M : MK sgF s 8) (hn : 16 ≤ s.size) (hs : s.size ≤ 9223372036854775807) (ew : beV s 8 = w) (eh : beV s 12 = h) (hkd : kdS 8 8 w h = 0) (W : World) :
    Calls Tryz.prog 27 #[.string s] W fun e w' => e = .returned (.tuple #[.int .i64 w, .int .i64 h]) ∧ W.grownBy w' none := by
  obtain ⟨pl, hpl⟩ : ∃ pl, plS 8 8 w h = pl := ⟨_, rfl⟩
  have KC := fun u => check_calls s 8 w h 0 pl M hn hs ew eh hkd hpl u
  unfold imB at KC
  have KC := Lib.hid KC
  have K1 : ∀ u, Calls Tryz.prog 35 #[.string (s.extract 8 12)] u fun e w' => e = .returned (.int .i64 (beV s 8 : Nat)) ∧ u = w' := fun u => be_calls s 8 u
  have K2 : ∀ u, Calls Tryz.prog 35 #[.string (s.extract 12 16)] u fun e w' => e = .returned (.int .i64 (beV s 12 : Nat)) ∧ u = w' := fun u => be_calls s 12 u
  rw [ew] at K1
  rw [eh] at K2
  have K1 := Lib.hid K1
  have K2 := Lib.hid K2
  have s1 : ∀ w, (Instr.slice 9 (.string s) (some (.int .i64 8)) (some (.int .i64 12)) none).run Tryz.prog w = .ok (.string (s.extract 8 12)) w := fun w => Sr.cut_at s 8 4 (by omega) w
  have s2 : ∀ w, (Instr.slice 9 (.string s) (some (.int .i64 12)) (some (.int .i64 16)) none).run Tryz.prog w = .ok (.string (s.extract 12 16)) w := fun w => Sr.cut_at s 12 4 (by omega) w
  have hfl : ∀ w, (Instr.field 39 (.agg #[.int .i64 0, .int .i64 0, .slice none 0 0, .int .i64 ((0 : Nat) : Int), .int .i64 pl]) 3).run Tryz.prog w = .ok (.int .i64 0) w := fun w => by kernel_rfl
  have hfl2 : ∀ w, (Instr.field 39 (.agg #[.int .i64 0, .int .i64 0, .slice none 0 0, .int .i64 0, .int .i64 pl]) 3).run Tryz.prog w = .ok (.int .i64 0) w := fun w => by kernel_rfl
  have d1 : decide ((s.size : Int) < 16) = false := decide_eq_false (by omega)
  have d1' : ¬ (s.size : Int) < 16 := by omega
  have HN := Lib.hid hn
  clear M hs ew eh hkd hpl hn
  go_enter Tryz.func27, Tryz.ntmps27
  go_wp2_with fail
  refine (KC.out _).mono ?_
  rintro e w1 ⟨rfl, g1⟩
  have HG := Lib.hid g1
  clear g1
  go_wp2_with fail
  go_quiet ((first
    | (go_at_call 35; with_reducible exact Calls.quiet_of_same ((K1.out _).mono (fun _ _ h => ⟨h.1, h.2.symm⟩)))
    | (go_at_call 35; with_reducible exact Calls.quiet_of_same ((K2.out _).mono (fun _ _ h => ⟨h.1, h.2.symm⟩)))))
  go_wp2
  go_ret2
  exact ⟨rfl, gb_trans HG.out (gb_drewN _ _ _)⟩

theorem rsides_of {s : ByteArray} {v : TV} (C : Cl s v) (hs : s.size ≤ 9223372036854775807) (W : World) :
    Calls Tryz.prog 27 #[.string s] W fun e w' => e = .returned (.tuple #[.int .i64 v.w, .int .i64 v.h]) ∧ W.grownBy w' none := by
  cases C with
  | short h => exact rsides_short s h W
  | bad K h16 M hk => exact rsides_bad s K _ _ _ _ M h16 hs rfl rfl rfl rfl hk W
  | cut k n w h h16 M ew eh hk hn hc h1 h2 => exact rsides_ok s w h M h16 hs ew eh hk W
  | good n w h h16 M ew eh hk hn h1 => exact rsides_ok s w h M h16 hs ew eh hk W

theorem by_of {g : Nat} {S : ByteArray} {w : World} (h : w.heap[g]? = some (.cells (Bu.bys S) 5 (0, 0))) : Lib.Bytes w g 0 S := fun i hi => by
  rw [Nat.zero_add]
  exact (blk_cell h i).trans (Bu.bys_at S i hi)
theorem bx_of {g : Nat} {S : ByteArray} {w : World} (h : w.heap[g]? = some (.cells (Bu.bys S) 5 (0, 0))) : Bx (some ⟨g, 0, none⟩) S w := .inr ⟨g, 0, rfl, by_of h⟩

def exF : ByteArray := ⟨#[102, 97, 114, 98, 102, 101, 108, 100, 0, 0, 0, 1, 0, 0, 0, 1, 255, 255, 128, 128, 0, 0, 255, 255]⟩
theorem exf_cl : ∃ v : TV, Cl exF v ∧ v.f = 0 ∧ v.w = 1 ∧ v.h = 1 ∧ v.A = ⟨#[255, 128, 0, 255]⟩ ∧ v.N = 3 :=
  ⟨_, .good 1 1 1 (by decide) ⟨by decide, by decide, by decide⟩ (by decide +kernel) (by decide +kernel) (by decide) rfl (by decide), rfl, rfl, rfl, by kernel_rfl, rfl⟩

theorem wide_calls (W : World) : Calls Tryz.prog 12 #[] W fun e w' => e = .returned (.agg #[.int .i64 16384, .int .i64 16384, .int .i64 262144, .int .i64 1048576]) ∧ W.grownBy w' none := by
  go_enter Tryz.func12, Tryz.ntmps12
  go_wp2
  refine bodyPost_ret (v := .agg #[.int .i64 16384, .int .i64 16384, .int .i64 262144, .int .i64 1048576]) (by simp only [results, Tryz.results12]; go_simp) rfl ?_
  exact ⟨rfl, World.grownBy_alloc _ _ _⟩

set_option maxRecDepth 100000 in
set_option maxHeartbeats 4000000 in
theorem awake_calls (W : World) : Calls Tryz.prog 26 #[] W fun e w' => e = .returned (.bool true) ∧ W.grownBy w' none := by
  obtain ⟨v, HC, f0, w0, h0, hA, hN⟩ := exf_cl
  have KW := Lib.hid (fun u => wide_calls u)
  have KR := Lib.hid (fun u => run15_calls exF v (td_of HC) 16384 16384 262144 1048576 u (by decide) (by decide) (by decide) (by decide) (by decide))
  have HV := Lib.hid (And.intro f0 (And.intro w0 (And.intro h0 (And.intro hA hN))))
  clear HC f0 w0 h0 hA hN
  go_enter Tryz.func26, Tryz.ntmps26
  go_wp2_with fail
  refine (KW.out _).mono ?_
  rintro e w1 ⟨rfl, g1⟩
  have G1 := Lib.hid g1
  clear g1
  go_wp2_with fail
  refine (KR.out _).mono ?_
  rintro e w2 ⟨img, fault, l, rfl, y, L2, ok2, lim, g2, H⟩
  obtain ⟨f0, w0, h0, hA, hN⟩ := HV.out
  rw [f0, w0, h0, hA] at H
  rcases H with ⟨_, ⟨g, rfl, hb, _⟩, rfl, _⟩ | ⟨hz, _⟩ | ⟨hno, _⟩
  · have g3 := gb_trans (World.grownBy_alloc w2 (.cells #[.int .i64 1, .int .i64 1, .slice (some ⟨g, 0, none⟩) 4 4] 27) none) (World.grownBy_alloc _ (.cells #[.int .i64 0, .int .i64 0, .int .i64 0] 29) none)
    have hb2 := blk_al (blk_al hb (.cells #[.int .i64 1, .int .i64 1, .slice (some ⟨g, 0, none⟩) 4 4] 27)) (.cells #[.int .i64 0, .int .i64 0, .int .i64 0] 29)
    have hc := conv_bx (bx_of hb2) 4
    have hsz : (⟨#[255, 128, 0, 255]⟩ : ByteArray).size = 4 := by kernel_rfl
    rw [hsz] at hc
    have G := Lib.hid (gb_trans G1.out (gb_trans g2 g3))
    clear g2 g3 hb hb2 L2 ok2 KR hsz lim w0 h0 f0 hA hN
    simp only [okT, show ((1 : Nat) : Int) = 1 from rfl, show 4 * (1 * 1) = 4 from rfl]
    go_wp2
    go_ret
    exact ⟨rfl, G.out⟩
  · exact absurd rfl hz
  · exfalso
    have e1 : (St.new 16384 16384 262144 1048576).w = 16384 ∧ (St.new 16384 16384 262144 1048576).h = 16384 ∧ (St.new 16384 16384 262144 1048576).b = 262144 ∧ (St.new 16384 16384 262144 1048576).s = 1048576 := ⟨by decide, by decide, by decide, by decide⟩
    obtain ⟨e1, e2, e3, e4⟩ := e1
    rw [e1, e2, e3, e4] at hno
    omega

end Go.Proofs.YtjdhlehpoclnjaaGreat.Ff
