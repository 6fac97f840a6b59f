/- Texts of one kind, one behind the other: Qf3. -/
import Derived.BigRegion
import Derived.Deep.RegionHeld3
import Derived.Test.YtmhghkgcfgacdaaGreatG48
/- The law of layer 26: any file, walked (written by wip/gen/fl3.py). -/
namespace Go.Proofs.YtmhghkgcfgacdaaGreat.Qo
open Go.ChangeShapes Go.WideShapes Go.ChangeAt Go.RowKit
open Go.Proofs.YtmhghkgcfgacdaaGreat.Le Go.Proofs.YtmhghkgcfgacdaaGreat.Tk Go.Proofs.YtmhghkgcfgacdaaGreat.Sr Go.Proofs.YtmhghkgcfgacdaaGreat.Sh Go.Proofs.YtmhghkgcfgacdaaGreat.Qw Go.Proofs.YtmhghkgcfgacdaaGreat.Qd
open Go.Proofs.YtmhghkgcfgacdaaGreat.Ra hiding bt
set_option linter.unusedVariables false

theorem cut0 (s : ByteArray) (n : Nat) (h : n ≤ s.size) (w : World) :
    (Instr.slice 9 (.string s) none (some (.int .i64 (n : Int))) none).run Tryz.prog w = .ok (.string (s.extract 0 n)) w := by
  have ht' : Tryz.prog.underlying 9 = some .string := by kernel_rfl
  simp [Instr.slice, run_underlying ht', Instr.sliceBounds, run_sliceBound, Result.andThen, show (n : Int) ≤ s.size by omega]

set_option maxRecDepth 100000 in
set_option maxHeartbeats 8000000 in
theorem dec_law (s : ByteArray) (v : TV) (ST : StepOk s) (C : Cl s v) (hlen : s.size ≤ 900) (hw60 : v.w ≤ 60) (hh60 : v.h ≤ 60) (W : World) :
    Calls Tryz.prog 3 #[.string s] W fun e w' => e = .returned (.bool true) ∧ W.grownBy w' none := by
  have KAW := Lib.hid (fun u => awake_calls u)
  have dlen : decide ((900 : Int) < (s.size : Int)) = false := decide_eq_false (by omega)
  have d_w : decide ((60 : Int) < (v.w : Int)) = false := decide_eq_false (by omega)
  have d_h : decide ((60 : Int) < (v.h : Int)) = false := decide_eq_false (by omega)
  have KR1 := Lib.hid (fun u => run15_calls s v (td_of C) 16384 16384 262144 1048576 u (by omega) (by decide) (by decide) (by decide) (by decide))
  have KW := Lib.hid (fun u => wide_calls u)
  obtain ⟨P, hPb, hCL, KQ0⟩ := rdec_of ST C (by omega) hw60 hh60
  have KS := Lib.hid (fun u => rsides_of C (by omega) u)
  have KH := Lib.hid (fun u => heads_of C (by omega) (hCL.imp id (fun h => h.1)) _ KQ0 u)
  have KQ := fun u => KQ0 u
  unfold DQ imB at KQ
  have KQ := Lib.hid KQ
  have HWH := Lib.hid (And.intro hw60 hh60)
  have HNN := Lib.hid (cl_N C)
  have KI := fun u => is_calls s u
  obtain ⟨bI, hb⟩ : ∃ b, isB qS s = b := ⟨_, rfl⟩
  rw [hb] at KI
  have KI := Lib.hid KI
  have hb2 : (if 4 ≤ s.size then ((s.extract 0 4).toList == (⟨#[113, 111, 105, 102]⟩ : ByteArray).toList) else false) = bI := by
    rw [← hb]
    unfold isB
    by_cases h : 4 ≤ s.size
    · rw [if_pos h]
      show _ = (decide (4 ≤ s.size) && _)
      rw [decide_eq_true h]
      rfl
    · rw [if_neg h]
      show _ = (decide (4 ≤ s.size) && _)
      rw [decide_eq_false h]
      rfl
  have hA : v.w = 0 ∨ (1 ≤ v.w ∧ 1 ≤ v.h ∧ v.A = rk (P) (v.w * v.h) (v.w * v.h)) := by
    rcases hCL with ⟨h, _⟩ | ⟨h1, _, h2, _, h3⟩
    · exact .inl h
    · exact .inr ⟨h1, h2, h3⟩
  have hf0 : v.f = 0 → v.w ≠ 0 := by
    rcases hCL with ⟨_, _, h⟩ | ⟨h1, _, h2, _, h3⟩
    · exact fun e => absurd e h
    · exact fun _ => by omega
  obtain ⟨B4, hB4⟩ : ∃ z : Int, ((4 * (v.w * v.h) : Nat) : Int) = z := ⟨_, rfl⟩
  obtain ⟨w4, hw4⟩ : ∃ z : Int, 4 * (v.w : Int) = z := ⟨_, rfl⟩
  have hb44 : w4 * (v.h : Int) = B4 := by rw [← hw4, ← hB4]; push_cast; rw [Int.mul_assoc]
  have h36 : v.w * v.h ≤ 60 * 60 := Nat.mul_le_mul hw60 hh60
  have x1 : IntKind.i64.wrap w4 = w4 := by rw [IntKind.wrap_i64]; omega
  have x2 : wrap64 w4 = w4 := IntWalk.wrap64_in _ (by omega)
  have x3 : IntKind.i64.wrap B4 = B4 := by rw [IntKind.wrap_i64]; omega
  have x4 : wrap64 B4 = B4 := IntWalk.wrap64_in _ (by omega)
  have HB4 := Lib.hid hB4
  have HW4 := Lib.hid (And.intro hw4 (And.intro hb44 (And.intro x1 (And.intro x2 (And.intro x3 x4)))))
  have HA0 := Lib.hid hA
  have HF0 := Lib.hid hf0
  clear C ST hCL KQ0 hw60 hh60 hb hB4 hw4 hb44 h36 x1 x2 x3 x4 hA hf0
  by_cases h8 : 4 ≤ s.size
  case' pos =>
    have h8' : decide ((4 : Int) ≤ (s.size : Int)) = true := decide_eq_true (by omega)
    have h8'' : (4 : Int) ≤ (s.size : Int) := by omega
    rw [if_pos h8] at hb2
    have hb3 : ∀ x : Bool, (x != x) = false := fun x => by cases x <;> rfl
    subst hb2
    have hsl : ∀ w, (Instr.slice 9 (.string s) none (some (.int .i64 4)) none).run Tryz.prog w = .ok (.string (s.extract 0 4)) w := fun w => cut0 s 4 h8 w
  case' neg =>
    have h8' : decide ((4 : Int) ≤ (s.size : Int)) = false := decide_eq_false (by omega)
    have h8'' : ¬ (4 : Int) ≤ (s.size : Int) := by omega
    rw [if_neg h8] at hb2
    subst hb2
  all_goals
    go_enter Tryz.func3, Tryz.ntmps3
    go_wp2_with fail
    refine (KS.out _).mono ?_
    rintro e w1 ⟨rfl, g1⟩
    have HG1 := Lib.hid g1
    clear g1
    go_wp2_with fail
    refine (KW.out _).mono ?_
    rintro e w2 ⟨rfl, g2⟩
    have HG2 := Lib.hid (gb_trans HG1.out g2)
    clear g2
    go_wp2_with fail
    refine (KR1.out w2).mono ?_
    rintro e w3 ⟨img, fault, l, rfl, y, L3, yok, lim, g3, H3⟩
    have e1 : (St.new 16384 16384 262144 1048576).w = 16384 ∧ (St.new 16384 16384 262144 1048576).h = 16384 ∧ (St.new 16384 16384 262144 1048576).b = 262144 ∧ (St.new 16384 16384 262144 1048576).s = 1048576 := ⟨by decide, by decide, by decide, by decide⟩
    rw [e1.1, e1.2.1, e1.2.2.1, e1.2.2.2] at H3
    clear e1 yok lim
    rcases H3 with ⟨z0, ⟨g, rfl, hb, hsA⟩, rfl, hby, hr, hw, hh⟩ | ⟨z0, rfl, rfl, hr, hby⟩ | ⟨hno, _⟩
    · have HZ := Lib.hid (And.intro z0 (And.intro hsA hr))
      have HN1 := Lib.hid (show 1 ≤ v.w * v.h ∧ v.w * v.h ≤ 3600 by
        have hz := HF0.out z0
        rcases HA0.out with h | ⟨h1, h2, _⟩
        · exact absurd h hz
        · exact ⟨Nat.mul_pos h1 h2, Nat.mul_le_mul HWH.out.1 HWH.out.2⟩)
      have HA := Lib.hid (show v.A = rk (P) (v.w * v.h) (v.w * v.h) by
        have hz := HF0.out z0
        rcases HA0.out with h | ⟨h1, h2, h3⟩
        · exact absurd h hz
        · exact h3)
      simp only [okT]
      have gg := gb_trans (World.grownBy_alloc w3 (.cells #[.int .i64 v.w, .int .i64 v.h, .slice (some ⟨g, 0, none⟩) (4 * (v.w * v.h)) (4 * (v.w * v.h))] 27) none) (World.grownBy_alloc _ (.cells #[.int .i64 0, .int .i64 0, .int .i64 0] 29) none)
      have I4 : ((w3.alloc (.cells #[.int .i64 v.w, .int .i64 v.h, .slice (some ⟨g, 0, none⟩) (4 * (v.w * v.h)) (4 * (v.w * v.h))] 27)).alloc (.cells #[.int .i64 0, .int .i64 0, .int .i64 0] 29)).heap[w3.heap.size]? = some (.cells #[.int .i64 v.w, .int .i64 v.h, .slice (some ⟨g, 0, none⟩) (4 * (v.w * v.h)) (4 * (v.w * v.h))] 27 (0, 0)) := blk_al blk_at _
      have F4 : Fl (w3.heap.size + 1) 0 0 0 ((w3.alloc (.cells #[.int .i64 v.w, .int .i64 v.h, .slice (some ⟨g, 0, none⟩) (4 * (v.w * v.h)) (4 * (v.w * v.h))] 27)).alloc (.cells #[.int .i64 0, .int .i64 0, .int .i64 0] 29)) := by
        rw [← size_alloc w3 (.cells #[.int .i64 v.w, .int .i64 v.h, .slice (some ⟨g, 0, none⟩) (4 * (v.w * v.h)) (4 * (v.w * v.h))] 27)]
        exact blk_at
      have HG4 := Lib.hid (gb_trans (gb_trans HG2.out g3) gg)
      have HL4 := Lib.hid (L3.grown gg (by simp))
      have HI4 := Lib.hid I4
      have HF4 := Lib.hid F4
      have HX4 := Lib.hid ((bx_of hb).grown gg)
      have HBY := Lib.hid (show y.ls.by_ = B4 from hby.trans HB4.out)
      clear L3 gg g3 I4 F4 KR1 HG2 hb hsA
      go_wp2_with fail
      generalize (w3.alloc (.cells #[.int .i64 v.w, .int .i64 v.h, .slice (some ⟨g, 0, none⟩) (4 * (v.w * v.h)) (4 * (v.w * v.h))] 27)).alloc (.cells #[.int .i64 0, .int .i64 0, .int .i64 0] 29) = w4 at HG4 HL4 HI4 HF4 HX4 ⊢
      refine (KQ.out w4).mono ?_
      rintro e w5 ⟨g5, h5⟩
      obtain ⟨z1, _⟩ | ⟨_, Lv, rfl, O5⟩ := h5
      · exact absurd z0 z1
      · rw [qL_len] at O5
        obtain ⟨b, cap, cur, rfl, hbg, hcap, hcb⟩ : ∃ b cap cur, Lv = .slice (some ⟨b, 0, none⟩) (v.w * v.h) cap ∧ w5.heap[b]? = some (.cells cur 67 (0, 0)) ∧ v.w * v.h ≤ cap ∧ cur.toList.take (v.w * v.h * 4) = cells (qL (P) (v.w * v.h)) := by
          rcases O5.2 with ⟨h, h0⟩ | ⟨g2, cap, cur, h1, _, h2, h3, _, _, h4⟩
          · exfalso; have := HN1.out; omega
          · exact ⟨g2, cap, cur, h1, h2, h3, h4⟩
        have hCB : CB b (qL (P) (v.w * v.h)) w5 := ⟨cur, hbg, by rw [qL_len]; exact hcb⟩
        have g6 := gb_trans g5 (World.grownBy_alloc w5 (.cells #[.int .i64 v.w, .int .i64 v.h, .slice (some ⟨b, 0, none⟩) (v.w * v.h) cap, .int .i64 0, .int .i64 0] 39) none)
        have HG6 := Lib.hid (gb_trans HG4.out g6)
        have HL6 := Lib.hid (HL4.out.grown g6 (by simp))
        have HI6 := Lib.hid ((g6.block _ (blk_lt HI4.out) (by simp)).trans HI4.out)
        have HF6 := Lib.hid (HF4.out.turned (Tn.gb g6 (S := []) (by simp)) (by simp))
        have HD6 := Lib.hid (blk_at (w := w5) (o := .cells #[.int .i64 v.w, .int .i64 v.h, .slice (some ⟨b, 0, none⟩) (v.w * v.h) cap, .int .i64 0, .int .i64 0] 39))
        have HX6 := Lib.hid (HX4.out.grown g6)
        have HC6 := Lib.hid (hCB.kept (World.grownBy_alloc w5 (.cells #[.int .i64 v.w, .int .i64 v.h, .slice (some ⟨b, 0, none⟩) (v.w * v.h) cap, .int .i64 0, .int .i64 0] 39) none) (by simp))
        have HCAP := Lib.hid hcap
        clear g5 g6 HG4 HL4 HI4 HF4 HX4 KQ O5 hbg hcap hcb hCB
        go_wp2_with fail
        generalize w5.alloc (.cells #[.int .i64 v.w, .int .i64 v.h, .slice (some ⟨b, 0, none⟩) (v.w * v.h) cap, .int .i64 0, .int .i64 0] 39) = w6 at HG6 HL6 HI6 HF6 HD6 HX6 HC6 ⊢
        refine (KH.out w6).mono ?_
        rintro e w7 ⟨rfl, g7⟩
        have HG7 := Lib.hid (gb_trans HG6.out g7)
        have HL7 := Lib.hid (HL6.out.grown g7 (by simp))
        have I7 := (g7.block _ (blk_lt HI6.out) (by simp)).trans HI6.out
        have F7 := HF6.out.turned (Tn.gb g7 (S := []) (by simp)) (by simp)
        have D7 := (g7.block _ (blk_lt HD6.out) (by simp)).trans HD6.out
        have p0 := F7.c0
        have p1 := F7.c1
        have p2 := F7.c2
        have i0 := blk_cell I7 0
        have i1 := blk_cell I7 1
        have i2 := blk_cell I7 2
        have d0 := blk_cell D7 0
        have d1 := blk_cell D7 1
        have d2 := blk_cell D7 2
        have d3 := blk_cell D7 3
        have d4 := blk_cell D7 4
        simp only [List.getElem?_toArray, List.getElem?_cons_succ, List.getElem?_cons_zero] at i0 i1 i2 d0 d1 d2 d3 d4
        have dlt := blk_lt D7
        have HI7 := Lib.hid I7
        have HF7 := Lib.hid F7
        have HD7 := Lib.hid D7
        have HX7 := Lib.hid (HX6.out.grown g7)
        have HC7 := Lib.hid (HC6.out.kept g7 (by simp))
        have KBY := Lib.hid (fun u (Lu : Led l y.ls u) => bytes_calls l y.ls u Lu)
        have KP := fun u (hc : CB b (qL (P) (v.w * v.h)) u) => rplain_calls b cap v.w v.h 0 0 (qL (P) (v.w * v.h)) u hc (qL_255 _ _ hPb) (by rw [qL_len]; have := HN1.out; omega) (by rw [qL_len]; have := HN1.out; omega) (by rw [qL_len]; exact HCAP.out)
        simp only [qL_len] at KP
        have hA2 := HA.out
        rw [rk_full] at hA2
        rw [← hA2] at KP
        have hszS : v.A.size = 4 * (v.w * v.h) := HZ.out.2.1
        obtain ⟨S, hS⟩ : ∃ S : ByteArray, v.A = S := ⟨_, rfl⟩
        rw [hS] at KP hszS HX7
        have KSM := fun u (g' c' : Nat) (h1 : Bx (some ⟨g, 0, none⟩) S u) (h2 : Bx (some ⟨g', 0, none⟩) S u) => rsame_calls (v.w : Int) (v.h : Int) (v.w : Int) (v.h : Int) (some ⟨g, 0, none⟩) (some ⟨g', 0, none⟩) (4 * (v.w * v.h)) c' S S u h1 h2
        simp only [sameB_self, hszS] at KSM
        have HKP := Lib.hid KP
        have HKSM := Lib.hid KSM
        have hw4 := HW4.out
        clear g7 HG6 HL6 HI6 HF6 HD6 HX6 HC6 I7 F7 D7 KP KSM hA2 hszS hS
        go_wp2_with fail
        refine (KI.out _).mono ?_
        rintro e w' ⟨rfl, rfl⟩
        go_wp2_with fail
        go_region_held3 (fun w' => w'.cell? ⟨w3.heap.size + 1, 0, none⟩ = some (.int .i64 0) ∧ w'.cell? ⟨w3.heap.size + 1, 1, none⟩ = some (.int .i64 0) ∧ w'.cell? ⟨w3.heap.size + 1, 2, none⟩ = some (.int .i64 0) ∧ w'.cell? ⟨w3.heap.size, 0, none⟩ = some (.int .i64 v.w) ∧ w'.cell? ⟨w3.heap.size, 1, none⟩ = some (.int .i64 v.h) ∧ w'.cell? ⟨w3.heap.size, 2, none⟩ = some (.slice (some ⟨g, 0, none⟩) (4 * (v.w * v.h)) (4 * (v.w * v.h))) ∧ w'.cell? ⟨w5.heap.size, 0, none⟩ = some (.int .i64 v.w) ∧ w'.cell? ⟨w5.heap.size, 1, none⟩ = some (.int .i64 v.h) ∧ w'.cell? ⟨w5.heap.size, 2, none⟩ = some (.slice (some ⟨b, 0, none⟩) (v.w * v.h) cap) ∧ w'.cell? ⟨w5.heap.size, 3, none⟩ = some (.int .i64 0) ∧ w'.cell? ⟨w5.heap.size, 4, none⟩ = some (.int .i64 0)) (go_keep)
          (first
            | (go_at_call 15; refine (HKP.out _ (HC7.out.kept (gb_drew w7 none) (by simp))).mono ?_; rintro e w8 ⟨g8, c8, rfl, X8, g8g⟩; have G8 := Lib.hid (gb_trans (gb_drew w7 none) g8g); have HX8 := Lib.hid X8; have B_a := (G8.out.block _ (blk_lt HF7.out) (by simp)).trans HF7.out; have kaB0 : w8.cell? ⟨w3.heap.size + 1, 0, none⟩ = some (.int .i64 0) := blk_cell B_a 0; have kaB1 : w8.cell? ⟨w3.heap.size + 1, 1, none⟩ = some (.int .i64 0) := blk_cell B_a 1; have kaB2 : w8.cell? ⟨w3.heap.size + 1, 2, none⟩ = some (.int .i64 0) := blk_cell B_a 2; have J_a := (G8.out.block _ (blk_lt HI7.out) (by simp)).trans HI7.out; have kaJ0 : w8.cell? ⟨w3.heap.size, 0, none⟩ = some (.int .i64 v.w) := blk_cell J_a 0; have kaJ1 : w8.cell? ⟨w3.heap.size, 1, none⟩ = some (.int .i64 v.h) := blk_cell J_a 1; have kaJ2 : w8.cell? ⟨w3.heap.size, 2, none⟩ = some (.slice (some ⟨g, 0, none⟩) (4 * (v.w * v.h)) (4 * (v.w * v.h))) := blk_cell J_a 2; have E_a := (G8.out.block _ (blk_lt HD7.out) (by simp)).trans HD7.out; have kaE0 : w8.cell? ⟨w5.heap.size, 0, none⟩ = some (.int .i64 v.w) := blk_cell E_a 0; have kaE1 : w8.cell? ⟨w5.heap.size, 1, none⟩ = some (.int .i64 v.h) := blk_cell E_a 1; have kaE2 : w8.cell? ⟨w5.heap.size, 2, none⟩ = some (.slice (some ⟨b, 0, none⟩) (v.w * v.h) cap) := blk_cell E_a 2; have kaE3 : w8.cell? ⟨w5.heap.size, 3, none⟩ = some (.int .i64 0) := blk_cell E_a 3; have kaE4 : w8.cell? ⟨w5.heap.size, 4, none⟩ = some (.int .i64 0) := blk_cell E_a 4; clear X8 g8g)
            | (go_at_call 14; refine (HKSM.out _ g8 c8 (HX7.out.grown G8.out) HX8.out).mono ?_; rintro e w9 ⟨rfl, g9⟩; have G9 := Lib.hid (gb_trans G8.out g9); have B_b := (G9.out.block _ (blk_lt HF7.out) (by simp)).trans HF7.out; have kbB0 : w9.cell? ⟨w3.heap.size + 1, 0, none⟩ = some (.int .i64 0) := blk_cell B_b 0; have kbB1 : w9.cell? ⟨w3.heap.size + 1, 1, none⟩ = some (.int .i64 0) := blk_cell B_b 1; have kbB2 : w9.cell? ⟨w3.heap.size + 1, 2, none⟩ = some (.int .i64 0) := blk_cell B_b 2; have J_b := (G9.out.block _ (blk_lt HI7.out) (by simp)).trans HI7.out; have kbJ0 : w9.cell? ⟨w3.heap.size, 0, none⟩ = some (.int .i64 v.w) := blk_cell J_b 0; have kbJ1 : w9.cell? ⟨w3.heap.size, 1, none⟩ = some (.int .i64 v.h) := blk_cell J_b 1; have kbJ2 : w9.cell? ⟨w3.heap.size, 2, none⟩ = some (.slice (some ⟨g, 0, none⟩) (4 * (v.w * v.h)) (4 * (v.w * v.h))) := blk_cell J_b 2; have E_b := (G9.out.block _ (blk_lt HD7.out) (by simp)).trans HD7.out; have kbE0 : w9.cell? ⟨w5.heap.size, 0, none⟩ = some (.int .i64 v.w) := blk_cell E_b 0; have kbE1 : w9.cell? ⟨w5.heap.size, 1, none⟩ = some (.int .i64 v.h) := blk_cell E_b 1; have kbE2 : w9.cell? ⟨w5.heap.size, 2, none⟩ = some (.slice (some ⟨b, 0, none⟩) (v.w * v.h) cap) := blk_cell E_b 2; have kbE3 : w9.cell? ⟨w5.heap.size, 3, none⟩ = some (.int .i64 0) := blk_cell E_b 3; have kbE4 : w9.cell? ⟨w5.heap.size, 4, none⟩ = some (.int .i64 0) := blk_cell E_b 4; clear g9)
            | (go_at_call 13; refine (KBY.out _ (HL7.out.grown G9.out (by simp))).mono ?_; rintro e w' ⟨rfl, rfl⟩; rw [HBY.out])
            | (go_at_call 5; refine (KAW.out _).mono ?_; rintro e wA ⟨rfl, gA⟩; have GA := Lib.hid (gb_trans G9.out gA); have B_c := (GA.out.block _ (blk_lt HF7.out) (by simp)).trans HF7.out; have kcB0 : wA.cell? ⟨w3.heap.size + 1, 0, none⟩ = some (.int .i64 0) := blk_cell B_c 0; have kcB1 : wA.cell? ⟨w3.heap.size + 1, 1, none⟩ = some (.int .i64 0) := blk_cell B_c 1; have kcB2 : wA.cell? ⟨w3.heap.size + 1, 2, none⟩ = some (.int .i64 0) := blk_cell B_c 2; have J_c := (GA.out.block _ (blk_lt HI7.out) (by simp)).trans HI7.out; have kcJ0 : wA.cell? ⟨w3.heap.size, 0, none⟩ = some (.int .i64 v.w) := blk_cell J_c 0; have kcJ1 : wA.cell? ⟨w3.heap.size, 1, none⟩ = some (.int .i64 v.h) := blk_cell J_c 1; have kcJ2 : wA.cell? ⟨w3.heap.size, 2, none⟩ = some (.slice (some ⟨g, 0, none⟩) (4 * (v.w * v.h)) (4 * (v.w * v.h))) := blk_cell J_c 2; have E_c := (GA.out.block _ (blk_lt HD7.out) (by simp)).trans HD7.out; have kcE0 : wA.cell? ⟨w5.heap.size, 0, none⟩ = some (.int .i64 v.w) := blk_cell E_c 0; have kcE1 : wA.cell? ⟨w5.heap.size, 1, none⟩ = some (.int .i64 v.h) := blk_cell E_c 1; have kcE2 : wA.cell? ⟨w5.heap.size, 2, none⟩ = some (.slice (some ⟨b, 0, none⟩) (v.w * v.h) cap) := blk_cell E_c 2; have kcE3 : wA.cell? ⟨w5.heap.size, 3, none⟩ = some (.int .i64 0) := blk_cell E_c 3; have kcE4 : wA.cell? ⟨w5.heap.size, 4, none⟩ = some (.int .i64 0) := blk_cell E_c 4; clear gA))
        all_goals
          go_wp2
          go_ret
          exact ⟨rfl, gb_trans HG7.out GA.out⟩
    · have HZ := Lib.hid z0
      simp only [img0, flF]
      have gg := gb_trans (World.grownBy_alloc w3 (.cells #[.int .i64 0, .int .i64 0, .slice none 0 0] 27) none) (World.grownBy_alloc _ (.cells #[.int .i64 v.f, .int .i64 5, .int .i64 v.p] 29) none)
      have I4 : ((w3.alloc (.cells #[.int .i64 0, .int .i64 0, .slice none 0 0] 27)).alloc (.cells #[.int .i64 v.f, .int .i64 5, .int .i64 v.p] 29)).heap[w3.heap.size]? = some (.cells #[.int .i64 0, .int .i64 0, .slice none 0 0] 27 (0, 0)) := blk_al blk_at _
      have F4 : Fl (w3.heap.size + 1) v.f 5 v.p ((w3.alloc (.cells #[.int .i64 0, .int .i64 0, .slice none 0 0] 27)).alloc (.cells #[.int .i64 v.f, .int .i64 5, .int .i64 v.p] 29)) := by
        rw [← size_alloc w3 (.cells #[.int .i64 0, .int .i64 0, .slice none 0 0] 27)]
        exact blk_at
      have HG4 := Lib.hid (gb_trans (gb_trans HG2.out g3) gg)
      have HL4 := Lib.hid (L3.grown gg (by simp))
      have HI4 := Lib.hid I4
      have HF4 := Lib.hid F4
      clear L3 gg g3 I4 F4 KR1 HG2
      go_wp2_with fail
      generalize (w3.alloc (.cells #[.int .i64 0, .int .i64 0, .slice none 0 0] 27)).alloc (.cells #[.int .i64 v.f, .int .i64 5, .int .i64 v.p] 29) = w4 at HG4 HL4 HI4 HF4 ⊢
      refine (KQ.out w4).mono ?_
      rintro e w5 ⟨g5, h5⟩
      obtain ⟨_, rfl⟩ | ⟨z1, _⟩ := h5
      · have g6 := gb_trans g5 (World.grownBy_alloc w5 (.cells #[.int .i64 0, .int .i64 0, .slice none 0 0, .int .i64 v.f, .int .i64 v.p] 39) none)
        have HG6 := Lib.hid (gb_trans HG4.out g6)
        have HL6 := Lib.hid (HL4.out.grown g6 (by simp))
        have HI6 := Lib.hid ((g6.block _ (blk_lt HI4.out) (by simp)).trans HI4.out)
        have HF6 := Lib.hid (HF4.out.turned (Tn.gb g6 (S := []) (by simp)) (by simp))
        have HD6 := Lib.hid (blk_at (w := w5) (o := .cells #[.int .i64 0, .int .i64 0, .slice none 0 0, .int .i64 v.f, .int .i64 v.p] 39))
        clear g5 g6 HG4 HL4 HI4 HF4 KQ
        go_wp2_with fail
        generalize w5.alloc (.cells #[.int .i64 0, .int .i64 0, .slice none 0 0, .int .i64 v.f, .int .i64 v.p] 39) = w6 at HG6 HL6 HI6 HF6 HD6 ⊢
        refine (KH.out w6).mono ?_
        rintro e w7 ⟨rfl, g7⟩
        have HG7 := Lib.hid (gb_trans HG6.out g7)
        have HL7 := Lib.hid (HL6.out.grown g7 (by simp))
        have I7 := (g7.block _ (blk_lt HI6.out) (by simp)).trans HI6.out
        have F7 := HF6.out.turned (Tn.gb g7 (S := []) (by simp)) (by simp)
        have D7 := (g7.block _ (blk_lt HD6.out) (by simp)).trans HD6.out
        have p0 := F7.c0
        have p1 := F7.c1
        have p2 := F7.c2
        have i0 := blk_cell I7 0
        have i1 := blk_cell I7 1
        have i2 := blk_cell I7 2
        have d0 := blk_cell D7 0
        have d1 := blk_cell D7 1
        have d2 := blk_cell D7 2
        have d3 := blk_cell D7 3
        have d4 := blk_cell D7 4
        simp only [List.getElem?_toArray, List.getElem?_cons_succ, List.getElem?_cons_zero] at i0 i1 i2 d0 d1 d2 d3 d4
        have dlt := blk_lt D7
        have HI7 := Lib.hid I7
        have HF7 := Lib.hid F7
        have HD7 := Lib.hid D7
        have KBY := Lib.hid (fun u (Lu : Led l y.ls u) => bytes_calls l y.ls u Lu)
        have hby0 : y.ls.by_ = 0 := hby
        have HBY0 := Lib.hid hby0
        have nz : ((v.f : Int) != 0) = true := by rw [bne_iff_ne]; have := HZ.out; omega
        have nz' : ¬ (v.f : Int) = 0 := by have := HZ.out; omega
        clear g7 HG6 HL6 HI6 HF6 HD6 I7 F7 D7 hby0
        go_wp2_with fail
        refine (KI.out _).mono ?_
        rintro e w' ⟨rfl, rfl⟩
        go_wp2_with fail
        refine (KBY.out _ HL7.out).mono ?_
        rintro e w' ⟨rfl, rfl⟩
        rw [HBY0.out]
        go_wp2_with fail
        refine (KAW.out _).mono ?_
        rintro e w9 ⟨rfl, g9⟩
        have G9 := Lib.hid (gb_trans HG7.out g9)
        clear g9
        go_wp2
        go_ret
        exact ⟨rfl, G9.out⟩
      · exact absurd z1 HZ.out
    · exfalso
      obtain ⟨h1, h2⟩ := HWH.out
      have h3 : v.w * v.h ≤ 60 * 60 := Nat.mul_le_mul h1 h2
      have h4 := HNN.out
      omega

set_option maxRecDepth 100000 in
theorem dec_big (s : ByteArray) (v : TV) (C : Cl s v) (hlen : s.size ≤ 900) (h60 : 60 < v.w ∨ 60 < v.h) (W : World) :
    Calls Tryz.prog 3 #[.string s] W fun e w' => e = .returned (.bool true) ∧ W.grownBy w' none := by
  have KAW := Lib.hid (fun u => awake_calls u)
  have dlen : decide ((900 : Int) < (s.size : Int)) = false := decide_eq_false (by omega)
  have KS := Lib.hid (fun u => rsides_of C (by omega) u)
  clear C
  by_cases h_w : 60 < v.w
  · have d_w : decide ((60 : Int) < (v.w : Int)) = true := decide_eq_true (by omega)
    clear h60
    go_enter Tryz.func3, Tryz.ntmps3
    go_wp2_with fail
    refine (KS.out _).mono ?_
    rintro e w1 ⟨rfl, g1⟩
    have HG1 := Lib.hid g1
    clear g1
    go_wp2_with fail
    refine (KAW.out _).mono ?_
    rintro e w9 ⟨rfl, g9⟩
    have G9 := Lib.hid (gb_trans HG1.out g9)
    clear g9
    go_wp2
    go_ret
    exact ⟨rfl, G9.out⟩
  · have d_w : decide ((60 : Int) < (v.w : Int)) = false := decide_eq_false (by omega)
    have d_h : decide ((60 : Int) < (v.h : Int)) = true := decide_eq_true (by omega)
    clear h60
    go_enter Tryz.func3, Tryz.ntmps3
    go_wp2_with fail
    refine (KS.out _).mono ?_
    rintro e w1 ⟨rfl, g1⟩
    have HG1 := Lib.hid g1
    clear g1
    go_wp2_with fail
    refine (KAW.out _).mono ?_
    rintro e w9 ⟨rfl, g9⟩
    have G9 := Lib.hid (gb_trans HG1.out g9)
    clear g9
    go_wp2
    go_ret
    exact ⟨rfl, G9.out⟩

set_option maxRecDepth 100000 in
theorem dec_long (s : ByteArray) (hlen : 900 < s.size) (W : World) :
    Calls Tryz.prog 3 #[.string s] W fun e w' => e = .returned (.bool true) ∧ W.grownBy w' none := by
  have KAW := Lib.hid (fun u => awake_calls u)
  have dlen : decide ((900 : Int) < (s.size : Int)) = true := decide_eq_true (by omega)
  clear hlen
  go_enter Tryz.func3, Tryz.ntmps3
  go_wp2_with fail
  refine (KAW.out _).mono ?_
  rintro e w9 ⟨rfl, g9⟩
  have G9 := Lib.hid g9
  clear g9
  go_wp2
  go_ret
  exact ⟨rfl, G9.out⟩
theorem dec_any (s : ByteArray) (ST : s.size ≤ 900 → StepOk s) (W : World) :
    Calls Tryz.prog 3 #[.string s] W fun e w' => e = .returned (.bool true) ∧ W.grownBy w' none := by
  by_cases hlen : s.size ≤ 900
  · obtain ⟨v, C⟩ := cl_ex s
    by_cases h60 : 60 < v.w ∨ 60 < v.h
    · exact dec_big s v C hlen h60 W
    · exact dec_law s v (ST hlen) C hlen (by omega) (by omega) W
  · exact dec_long s (by omega) W

end Go.Proofs.YtmhghkgcfgacdaaGreat.Qo
