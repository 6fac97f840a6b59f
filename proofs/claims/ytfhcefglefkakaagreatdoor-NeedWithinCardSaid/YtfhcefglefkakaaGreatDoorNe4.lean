/- Layer 31: the plan of the chapter's example. -/
import Derived.Test.YtfhcefglefkakaaGreatDoorNe3
import Derived.Test.YtfhcefglefkakaaGreatDoorNe1b
import Derived.Deep.CutRange
namespace Go.Proofs.YtfhcefglefkakaaGreatDoor.Ne
open Go.ChangeShapes Go.WideShapes Go.ChangeAt Go.RowKit
open Go.Proofs.YtfhcefglefkakaaGreatDoor.Le Go.Proofs.YtfhcefglefkakaaGreatDoor.Tk Go.Proofs.YtfhcefglefkakaaGreatDoor.Sr Go.Proofs.YtfhcefglefkakaaGreatDoor.Sn
set_option linter.unusedVariables false

theorem hs_ex (s : ByteArray) (b2 : Bool) (h2 : ∀ u : World, Calls Tryz.prog 42 #[.string s] u fun e w' => e = .returned (.bool b2) ∧ u.grownBy w' none) : ∃ B, Hs s B ∧ B 2 = b2 := by
  obtain ⟨b3, h3⟩ := beg_of s
  obtain ⟨b7, h7⟩ := pb_of s
  exact ⟨fun k => if k = 1 then isB ⟨#[66, 77]⟩ s else if k = 2 then b2 else if k = 3 then b3 else if k = 4 then icB s else if k = 5 then isB qoS s else if k = 6 then isB ffS s else if k = 7 then b7 else isB suS s,
    ⟨rfl, h2, h3, rfl, rfl, rfl, h7, rfl⟩, rfl⟩
theorem has_ord (s : ByteArray) (B : Nat → Bool) (H : Hs s B) (hs : s.size ≤ 9223372036854775807) (j : Nat) (h : j < 8) (u : World) : Calls Tryz.prog 28 #[.string s, .int .i64 (ordN j : Nat)] u fun e w' => e = .returned (.bool (B (ordN j))) ∧ u.grownBy w' none := by
  obtain rfl | rfl | rfl | rfl | rfl | rfl | rfl | rfl : j = 0 ∨ j = 1 ∨ j = 2 ∨ j = 3 ∨ j = 4 ∨ j = 5 ∨ j = 6 ∨ j = 7 := by omega
  · exact has_1 s B H hs u
  · exact has_3 s B H hs u
  · exact has_5 s B H hs u
  · exact has_6 s B H hs u
  · exact has_8 s B H hs u
  · exact has_7 s B H hs u
  · exact has_4 s B H hs u
  · exact has_2 s B H hs u
theorem ex_beg {b : Bool} (h : Beg exN b) : b = true := by
  have b0 : bt exN 0 = 80 := by kernel_rfl
  have b1 : bt exN 1 = 53 := by kernel_rfl
  have b2 : bt exN 2 = 32 := by kernel_rfl
  have hz : exN.size = 17 := rfl
  cases h with
  | short h => omega
  | first x h hx h1 => omega
  | low y h hx hy h1 => omega
  | high y h hx hy h1 => omega
  | sharp y h hx hy h1 h2 hz => rfl
  | blank y z h hx hy h1 h2 hz h3 h4 => rfl
  | other y z h hx hy h1 h2 hz h3 h4 =>
    obtain rfl : z = 32 := by omega
    exact absurd h4 (by decide)
theorem ex_format (W : World) (HT : OrdT W) : Calls Tryz.prog 14 #[.string exN] W fun e w' => e = .returned (.int .i64 3) ∧ W.grownBy w' none := by
  obtain ⟨B, H, _⟩ := hs_ex exN false (fun u => tg_short _ (by decide) u)
  have K := format_calls exN B (has_ord _ B H (by decide)) W HT
  have h1 : B 1 = false := by rw [H.b1]; decide +kernel
  have h3 : B 3 = true := ex_beg H.b3
  rw [show fmtL B = 3 by simp [fmtL, allL, ordL, h1, h3]] at K
  exact K

set_option maxRecDepth 100000 in
set_option maxHeartbeats 4000000 in
theorem of_calls (W : World) (HT : OrdT W) : Calls Tryz.prog 12 #[.string exN] W fun e w' => e = .returned (.tuple #[planV 3 2 3 8 0 0, .agg #[.int .i64 0, .int .i64 0, .int .i64 0]]) ∧ W.grownBy w' none := by
  have hP : ((W.alloc (.cells #[.int .i64 0, .int .i64 0, .int .i64 0, .int .i64 0, .int .i64 0, .int .i64 0] 23)).alloc (.cells #[.int .i64 0, .int .i64 0, .int .i64 0] 36)).heap[W.heap.size]? = some (.cells #[.int .i64 0, .int .i64 0, .int .i64 0, .int .i64 0, .int .i64 0, .int .i64 0] 23 (0, 0)) := blk_al blk_at _
  have hF : ((W.alloc (.cells #[.int .i64 0, .int .i64 0, .int .i64 0, .int .i64 0, .int .i64 0, .int .i64 0] 23)).alloc (.cells #[.int .i64 0, .int .i64 0, .int .i64 0] 36)).heap[W.heap.size + 1]? = some (.cells #[.int .i64 0, .int .i64 0, .int .i64 0] 36 (0, 0)) := by
    rw [← size_alloc W (.cells #[.int .i64 0, .int .i64 0, .int .i64 0, .int .i64 0, .int .i64 0, .int .i64 0] 23)]
    exact blk_at
  have g0 := gb_trans (World.grownBy_alloc W (.cells #[.int .i64 0, .int .i64 0, .int .i64 0, .int .i64 0, .int .i64 0, .int .i64 0] 23) none) (World.grownBy_alloc _ (.cells #[.int .i64 0, .int .i64 0, .int .i64 0] 36) none)
  have KF := Lib.hid (ex_format _ (HT.grown g0 (fun b e => by cases e)))
  have KR := Lib.hid (fun u => readers_calls u)
  have KN := Lib.hid (fun u => new_calls 0 0 0 4611686018427387904 u)
  have KS := Lib.hid (fun l u => snew_calls l exN u (by decide))
  have KP := Lib.hid (fun c l x u (R : Rd c l exN 0 x u) (hr : x.r = 0) (hx : x.st + 100 ≤ x.s) => pnm_calls c l x u R hr hx)
  have HG := Lib.hid g0
  obtain ⟨s, hs⟩ : ∃ s, exN = s := ⟨_, rfl⟩
  rw [hs] at KF KS KP ⊢
  clear g0 HT hs
  go_enter Tryz.func12, Tryz.ntmps12
  go_wp2_with fail
  generalize (W.alloc (.cells #[.int .i64 0, .int .i64 0, .int .i64 0, .int .i64 0, .int .i64 0, .int .i64 0] 23)).alloc (.cells #[.int .i64 0, .int .i64 0, .int .i64 0] 36) = w0 at KF HG hP hF ⊢
  refine KF.out.mono ?_
  rintro e w1 ⟨rfl, g1⟩
  have HG1 := Lib.hid (gb_trans HG.out g1)
  have HP1 := Lib.hid ((g1.block _ (blk_lt hP) (by simp)).trans hP)
  have HF1 := Lib.hid ((g1.block _ (blk_lt hF) (by simp)).trans hF)
  clear g1 hP hF KF HG
  go_wp2_with fail
  refine (KR.out _).mono ?_
  rintro e w2 ⟨M, rfl, g2, hlk⟩
  unfold fnV at hlk
  have HG2 := Lib.hid (gb_trans HG1.out g2)
  have HP2 := Lib.hid ((g2.block _ (blk_lt HP1.out) (by simp)).trans HP1.out)
  have HF2 := Lib.hid ((g2.block _ (blk_lt HF1.out) (by simp)).trans HF1.out)
  clear g2 KR HG1 HP1 HF1
  go_wp2_with fail
  refine (KN.out _).mono ?_
  rintro e w3 ⟨l, rfl, L3, g3, hl⟩
  have HG3 := Lib.hid (gb_trans HG2.out g3)
  have HP3 := Lib.hid ((g3.block _ (blk_lt HP2.out) (by simp)).trans HP2.out)
  have HF3 := Lib.hid ((g3.block _ (blk_lt HF2.out) (by simp)).trans HF2.out)
  have hlF := blk_lt HF2.out
  have HLL := Lib.hid (show W.heap.size + 1 < l by omega)
  have hlw := L3.lt
  have HL3 := Lib.hid L3
  clear g3 L3 KN HG2 HP2 HF2 hl hlF hlk
  go_wp2_with fail
  refine (KS.out l _).mono ?_
  rintro e w4 ⟨c, rfl, S4, g4, hc⟩
  have R4 : Rd c l s 0 (St.new 0 0 0 4611686018427387904) w4 := ⟨S4 hlw, HL3.out.grown g4 (by simp), St.new_ok (by decide) (by decide) (by decide) (by decide)⟩
  have HG4 := Lib.hid (gb_trans HG3.out g4)
  have HP4 := Lib.hid ((g4.block _ (blk_lt HP3.out) (by simp)).trans HP3.out)
  have HF4 := Lib.hid ((g4.block _ (blk_lt HF3.out) (by simp)).trans HF3.out)
  have hlF := blk_lt HF3.out
  have HCC := Lib.hid (show W.heap.size + 1 < c by omega)
  have KP4 := Lib.hid (KP.out c l _ w4 R4 (by rfl) (by decide))
  clear g4 S4 R4 KS KP HG3 HP3 HF3 HL3 hc hlF hlw
  go_wp2_with fail
  refine KP4.out.mono ?_
  rintro e w5 ⟨rfl, T5⟩
  have hcc := HCC.out
  have hll := HLL.out
  have HG5 := Lib.hid (Tn.own HG4.out T5 (by intro i hi; simp at hi; left; omega))
  have HP5 := Lib.hid ((T5.block _ (blk_lt HP4.out) (by simp; omega)).trans HP4.out)
  have HF5 := Lib.hid ((T5.block _ (blk_lt HF4.out) (by simp; omega)).trans HF4.out)
  clear T5 KP4 HG4 HP4 HF4
  have hz5 := blk_lt HF5.out
  have h6 : ((w5.alloc (.cells #[.int .i64 0, .int .i64 2, .int .i64 3, .int .i64 8, .int .i64 0, .int .i64 0] 23)).alloc (.cells #[.int .i64 0, .int .i64 0, .int .i64 0] 36)).heap[w5.heap.size]? = some (.cells #[.int .i64 0, .int .i64 2, .int .i64 3, .int .i64 8, .int .i64 0, .int .i64 0] 23 (0, 0)) := blk_al blk_at _
  have f6 : ((w5.alloc (.cells #[.int .i64 0, .int .i64 2, .int .i64 3, .int .i64 8, .int .i64 0, .int .i64 0] 23)).alloc (.cells #[.int .i64 0, .int .i64 0, .int .i64 0] 36)).heap[w5.heap.size + 1]? = some (.cells #[.int .i64 0, .int .i64 0, .int .i64 0] 36 (0, 0)) := by
    rw [← size_alloc w5 (.cells #[.int .i64 0, .int .i64 2, .int .i64 3, .int .i64 8, .int .i64 0, .int .i64 0] 23)]
    exact blk_at
  have g6 := gb_trans (World.grownBy_alloc w5 (.cells #[.int .i64 0, .int .i64 2, .int .i64 3, .int .i64 8, .int .i64 0, .int .i64 0] 23) none) (World.grownBy_alloc _ (.cells #[.int .i64 0, .int .i64 0, .int .i64 0] 36) none)
  have P6 := (g6.block _ (blk_lt HP5.out) (by simp)).trans HP5.out
  have F6 := (g6.block _ (blk_lt HF5.out) (by simp)).trans HF5.out
  have HG6 := Lib.hid (gb_trans HG5.out g6)
  unfold planV
  clear HP5 HF5 HG5 g6 hcc hll
  go_upto_region 9 with fail
  generalize (w5.alloc (.cells #[.int .i64 0, .int .i64 2, .int .i64 3, .int .i64 8, .int .i64 0, .int .i64 0] 23)).alloc (.cells #[.int .i64 0, .int .i64 0, .int .i64 0] 36) = w6 at h6 f6 P6 F6 HG6 ⊢
  obtain ⟨pb, hpb⟩ : ∃ pb, w5.heap.size = pb := ⟨_, rfl⟩
  rw [hpb] at h6 f6 hz5 ⊢
  clear hpb
  have a0 := blk_cell h6 0
  have a1 := blk_cell h6 1
  have a2 := blk_cell h6 2
  have a3 := blk_cell h6 3
  have a4 := blk_cell h6 4
  have a5 := blk_cell h6 5
  have ax := blk_free h6 0
  have b0 := blk_cell f6 0
  have b1 := blk_cell f6 1
  have b2 := blk_cell f6 2
  have p0 := blk_cell P6 0
  have p1 := blk_cell P6 1
  have p2 := blk_cell P6 2
  have p3 := blk_cell P6 3
  have p4 := blk_cell P6 4
  have p5 := blk_cell P6 5
  have t0 := blk_cell F6 0
  have t1 := blk_cell F6 1
  have t2 := blk_cell F6 2
  simp only [List.getElem?_toArray, List.getElem?_cons_succ, List.getElem?_cons_zero] at a0 a1 a2 a3 a4 a5 b0 b1 b2 p0 p1 p2 p3 p4 p5 t0 t1 t2
  have x0 := blk_free P6 0
  have x1 := blk_free P6 1
  have x2 := blk_free P6 2
  have x3 := blk_free P6 3
  have x4 := blk_free P6 4
  have x5 := blk_free P6 5
  have y0 := blk_free F6 0
  have y1 := blk_free F6 1
  have y2 := blk_free F6 2
  have m1 : ¬ pb = W.heap.size := by omega
  have m2 : ¬ W.heap.size = pb := by omega
  have m3 : ¬ pb = W.heap.size + 1 := by omega
  have m4 : ¬ W.heap.size + 1 = pb := by omega
  clear h6 f6 P6 F6
  go_wp2
  refine bodyPost_ret (v := .tuple #[.agg #[.int .i64 3, .int .i64 2, .int .i64 3, .int .i64 8, .int .i64 0, .int .i64 0], .agg #[.int .i64 0, .int .i64 0, .int .i64 0]]) (by simp only [results, Tryz.results12]; go_simp) rfl ⟨rfl, ?_⟩
  have hw := HG6.out
  repeat' (first | with_reducible exact hw | with_reducible refine gb_own ?_ (by omega) (gb_set _ _ _ _))

end Go.Proofs.YtfhcefglefkakaaGreatDoor.Ne
