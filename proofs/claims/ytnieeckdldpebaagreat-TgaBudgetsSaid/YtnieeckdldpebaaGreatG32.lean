/- Texts of one kind, one behind the other: Tp8. -/
import Derived.Test.YtnieeckdldpebaaGreatG31
/- Layer 17: Map, walked (written by wip/gen/tp8.py). -/
namespace Go.Proofs.YtnieeckdldpebaaGreat.Tp
open Go.ChangeShapes Go.WideShapes Go.ChangeAt Go.RowKit
open Go.Proofs.YtnieeckdldpebaaGreat.Sc Go.Proofs.YtnieeckdldpebaaGreat.Le Go.Proofs.YtnieeckdldpebaaGreat.Pa Go.Proofs.YtnieeckdldpebaaGreat.Tg
set_option linter.unusedVariables false

set_option maxRecDepth 100000 in
set_option maxHeartbeats 2000000 in
theorem map_name (n3 n4 n5 n6 n7 n8 n9 : Int) (nm x2 : Nat) (mp lf tp : Bool) (b l : Nat) (s : ByteArray) (p f t : Nat) (x : St) (W : World) (h : Sr.So b l s p f t W) (hl : Led l x.ls W) (ok : x.Ok) (ht : x2 < 256) (k a : Int) (rd : Sr.rdB x p t nm = false) (hf : (if ((x.work 1).1).r = 0 then Value.agg #[.int .i64 1, .int .i64 2, .int .i64 t] else .agg #[.int .i64 4, .int .i64 2, .int .i64 p]) = .agg #[.int .i64 k, .int .i64 2, .int .i64 a]) :
    Calls Tryz.prog 55 #[.pointer (some ⟨b, 0, none⟩), .agg #[.int .i64 nm, .bool mp, .int .i64 x2, .int .i64 n3, .int .i64 n4, .int .i64 n5, .int .i64 n6, .int .i64 n7, .int .i64 n8, .int .i64 n9, .bool lf, .bool tp]] W (fun e w' => e = .returned (.tuple #[.pointer none, .agg #[.int .i64 k, .int .i64 2, .int .i64 a]]) ∧ (Sr.So b l s p f t w' ∧ Led l (x.work 1).1.ls w') ∧ Tn W w' [b, l]) := by
  have hblt := h.lt
  have hllt := hl.lt
  have hbl := h.bl
  have HS := Lib.hid h
  have HL := Lib.hid hl
  have KF0 := fun u (hu : Sr.So b l s p f t u) (hlu : Led l (x.work 1).1.ls u) => Sr.fault_calls b l s p f t (x.work 1).1 2 u hu hlu
  rw [hf] at KF0
  have KF := Lib.hid KF0
  have KS := Lib.hid (fun u (hu : Sr.So b l s p f t u) (hlu : Led l x.ls u) => Sr.skip_no b l s p f t x nm u hu hlu ok rd)
  clear KF0 h hl ok rd hf
  go_enter Tryz.func55, Tryz.ntmps55
  go_wp2_with fail
  have hH : ((W.alloc (.cells #[.int .i64 nm, .bool mp, .int .i64 x2, .int .i64 n3, .int .i64 n4, .int .i64 n5, .int .i64 n6, .int .i64 n7, .int .i64 n8, .int .i64 n9, .bool lf, .bool tp] 55)).alloc (.cells #[.int .i64 0, .int .i64 0, .int .i64 0] 29)).heap[W.heap.size]? = some (.cells #[.int .i64 nm, .bool mp, .int .i64 x2, .int .i64 n3, .int .i64 n4, .int .i64 n5, .int .i64 n6, .int .i64 n7, .int .i64 n8, .int .i64 n9, .bool lf, .bool tp] 55 (0, 0)) := blk_al blk_at _
  have hR : ((W.alloc (.cells #[.int .i64 nm, .bool mp, .int .i64 x2, .int .i64 n3, .int .i64 n4, .int .i64 n5, .int .i64 n6, .int .i64 n7, .int .i64 n8, .int .i64 n9, .bool lf, .bool tp] 55)).alloc (.cells #[.int .i64 0, .int .i64 0, .int .i64 0] 29)).heap[W.heap.size + 1]? = some (.cells #[.int .i64 0, .int .i64 0, .int .i64 0] 29 (0, 0)) := by rw [← size_alloc W (.cells #[.int .i64 nm, .bool mp, .int .i64 x2, .int .i64 n3, .int .i64 n4, .int .i64 n5, .int .i64 n6, .int .i64 n7, .int .i64 n8, .int .i64 n9, .bool lf, .bool tp] 55)]; exact blk_at
  have hG : W.grownBy ((W.alloc (.cells #[.int .i64 nm, .bool mp, .int .i64 x2, .int .i64 n3, .int .i64 n4, .int .i64 n5, .int .i64 n6, .int .i64 n7, .int .i64 n8, .int .i64 n9, .bool lf, .bool tp] 55)).alloc (.cells #[.int .i64 0, .int .i64 0, .int .i64 0] 29)) none := gb_trans (World.grownBy_alloc _ _ _) (World.grownBy_alloc _ _ _)
  obtain ⟨hb, hhb⟩ : ∃ r, W.heap.size = r := ⟨_, rfl⟩
  rw [hhb] at hH hR hblt hllt ⊢
  have HHB := Lib.hid hhb
  generalize (W.alloc (.cells #[.int .i64 nm, .bool mp, .int .i64 x2, .int .i64 n3, .int .i64 n4, .int .i64 n5, .int .i64 n6, .int .i64 n7, .int .i64 n8, .int .i64 n9, .bool lf, .bool tp] 55)).alloc (.cells #[.int .i64 0, .int .i64 0, .int .i64 0] 29) = w0 at hH hR hG ⊢
  have HM := Lib.hid (show MZ hb (nm : Nat) n3 n4 n5 n6 n7 n8 n9 x2 mp lf tp w0 from ⟨hH, hR⟩)
  have HG := Lib.hid hG
  have HS0 := Lib.hid (HS.out.grown hG (by simp))
  have HL0 := Lib.hid (HL.out.grown hG (by simp))
  have hl0 := blk_lt hH
  have hl1 := blk_lt hR
  clear hH hR hG hhb HS HL
  have HM0 := HM
  have HT0 := Lib.hid (show Tn W w0 [b, l] from Tn.gb HG.out (by simp))
  clear HM HG hl0 hl1
  have h0 : w0.cell? ⟨hb, 0, none⟩ = some (.int .i64 nm) := blk_cell HM0.out.h 0
  have h1 : w0.cell? ⟨hb, 1, none⟩ = some (.bool mp) := blk_cell HM0.out.h 1
  have h2 : w0.cell? ⟨hb, 2, none⟩ = some (.int .i64 x2) := blk_cell HM0.out.h 2
  have h3 : w0.cell? ⟨hb, 3, none⟩ = some (.int .i64 n3) := blk_cell HM0.out.h 3
  have h4 : w0.cell? ⟨hb, 4, none⟩ = some (.int .i64 n4) := blk_cell HM0.out.h 4
  have h5 : w0.cell? ⟨hb, 5, none⟩ = some (.int .i64 n5) := blk_cell HM0.out.h 5
  have h6 : w0.cell? ⟨hb, 6, none⟩ = some (.int .i64 n6) := blk_cell HM0.out.h 6
  have h7 : w0.cell? ⟨hb, 7, none⟩ = some (.int .i64 n7) := blk_cell HM0.out.h 7
  have h8 : w0.cell? ⟨hb, 8, none⟩ = some (.int .i64 n8) := blk_cell HM0.out.h 8
  have h9 : w0.cell? ⟨hb, 9, none⟩ = some (.int .i64 n9) := blk_cell HM0.out.h 9
  have h10 : w0.cell? ⟨hb, 10, none⟩ = some (.bool lf) := blk_cell HM0.out.h 10
  have h11 : w0.cell? ⟨hb, 11, none⟩ = some (.bool tp) := blk_cell HM0.out.h 11
  have hl0 := blk_lt HM0.out.h
  refine (KS.out _ HS0.out HL0.out).mono ?_
  rintro e w1 ⟨rfl, ⟨S1, L1⟩, g1⟩
  have HS1 := Lib.hid S1
  have HL1 := Lib.hid L1
  have HM1 := Lib.hid (HM0.out.turned (Tn.gb g1 (S := [b, l]) (by simp)) (by simp; omega) (by simp; omega))
  have HT1 := Lib.hid (HT0.out.trans (Tn.gb g1 (by simp)))
  clear g1 S1 L1 HL0 HS0 HM0 HT0
  clear hl0 h0 h1 h2 h3 h4 h5 h6 h7 h8 h9 h10 h11
  have y0 : w1.cell? ⟨hb + 1, 0, none⟩ = some (.int .i64 0) := blk_cell HM1.out.f 0
  have yf0 := blk_free HM1.out.f 0
  have y1 : w1.cell? ⟨hb + 1, 1, none⟩ = some (.int .i64 0) := blk_cell HM1.out.f 1
  have yf1 := blk_free HM1.out.f 1
  have y2 : w1.cell? ⟨hb + 1, 2, none⟩ = some (.int .i64 0) := blk_cell HM1.out.f 2
  have yf2 := blk_free HM1.out.f 2
  have ylf := blk_lt HM1.out.f
  go_wp2_with fail
  refine (KF.out _ HS1.out HL1.out).mono ?_
  rintro e w2 ⟨rfl, g2⟩
  have HL2 := Lib.hid (HL1.out.grown g2 (by simp))
  have HS2 := Lib.hid (HS1.out.grown g2 (by simp))
  have HM2 := Lib.hid (HM1.out.turned (Tn.gb g2 (S := []) (by simp)) (by simp) (by simp))
  have HT2 := Lib.hid (HT1.out.trans (Tn.gb g2 (by simp)))
  clear g2 HL1 HS1 HM1 HT1 y0 y1 y2 yf0 yf1 yf2 ylf KF
  have q0 : w2.cell? ⟨hb + 1, 0, none⟩ = some (.int .i64 0) := blk_cell HM2.out.f 0
  have qf0 := blk_free HM2.out.f 0
  have q1 : w2.cell? ⟨hb + 1, 1, none⟩ = some (.int .i64 0) := blk_cell HM2.out.f 1
  have qf1 := blk_free HM2.out.f 1
  have q2 : w2.cell? ⟨hb + 1, 2, none⟩ = some (.int .i64 0) := blk_cell HM2.out.f 2
  have qf2 := blk_free HM2.out.f 2
  have hlf := blk_lt HM2.out.f
  clear HM2
  go_wp2
  refine bodyPost_ret (v := .tuple #[.pointer none, .agg #[.int .i64 k, .int .i64 2, .int .i64 a]]) (by simp only [results, Tryz.results55]; go_simp) rfl ⟨rfl, ⟨?_, ?_⟩, ?_⟩
  · repeat' first | with_reducible exact HS2.out | with_reducible refine so_oth ?_ (by omega) | with_reducible refine so_dr ?_ | with_reducible refine so_al ?_
  · repeat' first | with_reducible exact HL2.out | with_reducible refine Led.oth ?_ (by omega) | with_reducible refine led_dr ?_ | with_reducible refine led_al ?_
  · have h1 := HHB.out
    repeat' first | with_reducible exact HT2.out | with_reducible refine tn_own1 ?_ (by omega) | with_reducible refine Tn.dr ?_ | with_reducible refine Tn.al ?_

set_option maxRecDepth 100000 in
set_option maxHeartbeats 2000000 in
theorem map_none (n3 n4 n5 n6 n7 n8 n9 : Int) (nm x2 : Nat) (lf tp : Bool) (b l : Nat) (s : ByteArray) (p f t : Nat) (x : St) (W : World) (h : Sr.So b l s p f t W) (hl : Led l x.ls W) (ok : x.Ok) (ht : x2 < 256) (rd : Sr.rdB x p t nm = true) (hp : ((pln x2 : Int) == 1) = false) :
    Calls Tryz.prog 55 #[.pointer (some ⟨b, 0, none⟩), .agg #[.int .i64 nm, .bool false, .int .i64 x2, .int .i64 n3, .int .i64 n4, .int .i64 n5, .int .i64 n6, .int .i64 n7, .int .i64 n8, .int .i64 n9, .bool lf, .bool tp]] W (fun e w' => e = .returned (.tuple #[.pointer none, .agg #[.int .i64 0, .int .i64 0, .int .i64 0]]) ∧ (Sr.So b l s (p + nm) f t w' ∧ Led l (x.work 1).1.ls w') ∧ Tn W w' [b, l]) := by
  have hblt := h.lt
  have hllt := hl.lt
  have hbl := h.bl
  have HS := Lib.hid h
  have HL := Lib.hid hl
  have KS := Lib.hid (fun u (hu : Sr.So b l s p f t u) (hlu : Led l x.ls u) => Sr.skip_yes b l s p f t nm x u hu hlu ok rd)
  have KP0 := fun u => tplain_calls x2 ht u
  obtain ⟨y, hy⟩ : ∃ y : Int, (pln x2 : Int) = y := ⟨_, rfl⟩
  simp only [hy] at KP0
  rw [hy] at hp
  have KP := Lib.hid KP0
  clear KP0 h hl ok rd hy
  go_enter Tryz.func55, Tryz.ntmps55
  go_wp2_with fail
  have hH : ((W.alloc (.cells #[.int .i64 nm, .bool false, .int .i64 x2, .int .i64 n3, .int .i64 n4, .int .i64 n5, .int .i64 n6, .int .i64 n7, .int .i64 n8, .int .i64 n9, .bool lf, .bool tp] 55)).alloc (.cells #[.int .i64 0, .int .i64 0, .int .i64 0] 29)).heap[W.heap.size]? = some (.cells #[.int .i64 nm, .bool false, .int .i64 x2, .int .i64 n3, .int .i64 n4, .int .i64 n5, .int .i64 n6, .int .i64 n7, .int .i64 n8, .int .i64 n9, .bool lf, .bool tp] 55 (0, 0)) := blk_al blk_at _
  have hR : ((W.alloc (.cells #[.int .i64 nm, .bool false, .int .i64 x2, .int .i64 n3, .int .i64 n4, .int .i64 n5, .int .i64 n6, .int .i64 n7, .int .i64 n8, .int .i64 n9, .bool lf, .bool tp] 55)).alloc (.cells #[.int .i64 0, .int .i64 0, .int .i64 0] 29)).heap[W.heap.size + 1]? = some (.cells #[.int .i64 0, .int .i64 0, .int .i64 0] 29 (0, 0)) := by rw [← size_alloc W (.cells #[.int .i64 nm, .bool false, .int .i64 x2, .int .i64 n3, .int .i64 n4, .int .i64 n5, .int .i64 n6, .int .i64 n7, .int .i64 n8, .int .i64 n9, .bool lf, .bool tp] 55)]; exact blk_at
  have hG : W.grownBy ((W.alloc (.cells #[.int .i64 nm, .bool false, .int .i64 x2, .int .i64 n3, .int .i64 n4, .int .i64 n5, .int .i64 n6, .int .i64 n7, .int .i64 n8, .int .i64 n9, .bool lf, .bool tp] 55)).alloc (.cells #[.int .i64 0, .int .i64 0, .int .i64 0] 29)) none := gb_trans (World.grownBy_alloc _ _ _) (World.grownBy_alloc _ _ _)
  obtain ⟨hb, hhb⟩ : ∃ r, W.heap.size = r := ⟨_, rfl⟩
  rw [hhb] at hH hR hblt hllt ⊢
  have HHB := Lib.hid hhb
  generalize (W.alloc (.cells #[.int .i64 nm, .bool false, .int .i64 x2, .int .i64 n3, .int .i64 n4, .int .i64 n5, .int .i64 n6, .int .i64 n7, .int .i64 n8, .int .i64 n9, .bool lf, .bool tp] 55)).alloc (.cells #[.int .i64 0, .int .i64 0, .int .i64 0] 29) = w0 at hH hR hG ⊢
  have HM := Lib.hid (show MZ hb (nm : Nat) n3 n4 n5 n6 n7 n8 n9 x2 false lf tp w0 from ⟨hH, hR⟩)
  have HG := Lib.hid hG
  have HS0 := Lib.hid (HS.out.grown hG (by simp))
  have HL0 := Lib.hid (HL.out.grown hG (by simp))
  have hl0 := blk_lt hH
  have hl1 := blk_lt hR
  clear hH hR hG hhb HS HL
  have HM0 := HM
  have HT0 := Lib.hid (show Tn W w0 [b, l] from Tn.gb HG.out (by simp))
  clear HM HG hl0 hl1
  have h0 : w0.cell? ⟨hb, 0, none⟩ = some (.int .i64 nm) := blk_cell HM0.out.h 0
  have h1 : w0.cell? ⟨hb, 1, none⟩ = some (.bool false) := blk_cell HM0.out.h 1
  have h2 : w0.cell? ⟨hb, 2, none⟩ = some (.int .i64 x2) := blk_cell HM0.out.h 2
  have h3 : w0.cell? ⟨hb, 3, none⟩ = some (.int .i64 n3) := blk_cell HM0.out.h 3
  have h4 : w0.cell? ⟨hb, 4, none⟩ = some (.int .i64 n4) := blk_cell HM0.out.h 4
  have h5 : w0.cell? ⟨hb, 5, none⟩ = some (.int .i64 n5) := blk_cell HM0.out.h 5
  have h6 : w0.cell? ⟨hb, 6, none⟩ = some (.int .i64 n6) := blk_cell HM0.out.h 6
  have h7 : w0.cell? ⟨hb, 7, none⟩ = some (.int .i64 n7) := blk_cell HM0.out.h 7
  have h8 : w0.cell? ⟨hb, 8, none⟩ = some (.int .i64 n8) := blk_cell HM0.out.h 8
  have h9 : w0.cell? ⟨hb, 9, none⟩ = some (.int .i64 n9) := blk_cell HM0.out.h 9
  have h10 : w0.cell? ⟨hb, 10, none⟩ = some (.bool lf) := blk_cell HM0.out.h 10
  have h11 : w0.cell? ⟨hb, 11, none⟩ = some (.bool tp) := blk_cell HM0.out.h 11
  have hl0 := blk_lt HM0.out.h
  refine (KS.out _ HS0.out HL0.out).mono ?_
  rintro e w1 ⟨rfl, ⟨S1, L1⟩, t1⟩
  have HS1 := Lib.hid S1
  have HL1 := Lib.hid L1
  have HM1 := Lib.hid (HM0.out.turned t1 (by simp; omega) (by simp; omega))
  have HT1 := Lib.hid (HT0.out.trans t1)
  clear t1 S1 L1 HL0 HS0 HM0 HT0
  clear hl0 h0 h1 h2 h3 h4 h5 h6 h7 h8 h9 h10 h11
  have h0 : w1.cell? ⟨hb, 0, none⟩ = some (.int .i64 nm) := blk_cell HM1.out.h 0
  have h1 : w1.cell? ⟨hb, 1, none⟩ = some (.bool false) := blk_cell HM1.out.h 1
  have h2 : w1.cell? ⟨hb, 2, none⟩ = some (.int .i64 x2) := blk_cell HM1.out.h 2
  have h3 : w1.cell? ⟨hb, 3, none⟩ = some (.int .i64 n3) := blk_cell HM1.out.h 3
  have h4 : w1.cell? ⟨hb, 4, none⟩ = some (.int .i64 n4) := blk_cell HM1.out.h 4
  have h5 : w1.cell? ⟨hb, 5, none⟩ = some (.int .i64 n5) := blk_cell HM1.out.h 5
  have h6 : w1.cell? ⟨hb, 6, none⟩ = some (.int .i64 n6) := blk_cell HM1.out.h 6
  have h7 : w1.cell? ⟨hb, 7, none⟩ = some (.int .i64 n7) := blk_cell HM1.out.h 7
  have h8 : w1.cell? ⟨hb, 8, none⟩ = some (.int .i64 n8) := blk_cell HM1.out.h 8
  have h9 : w1.cell? ⟨hb, 9, none⟩ = some (.int .i64 n9) := blk_cell HM1.out.h 9
  have h10 : w1.cell? ⟨hb, 10, none⟩ = some (.bool lf) := blk_cell HM1.out.h 10
  have h11 : w1.cell? ⟨hb, 11, none⟩ = some (.bool tp) := blk_cell HM1.out.h 11
  have hl0 := blk_lt HM1.out.h
  go_wp2_with fail
  refine (KP.out _).mono ?_
  rintro e w' ⟨rfl, rfl⟩
  go_wp2_with fail
  go_quiet (fail)
  have HL2 := Lib.hid (HL1.out.grown (gb_drewN w1 nq none) (by simp))
  have HS2 := Lib.hid (HS1.out.grown (gb_drewN w1 nq none) (by simp))
  have HM2 := Lib.hid (HM1.out.turned (Tn.gb (gb_drewN w1 nq none) (S := [])  (by simp)) (by simp) (by simp))
  have HT2 := Lib.hid (HT1.out.trans (Tn.gb (gb_drewN w1 nq none) (by simp)))
  generalize w1.drewN nq = w2 at HL2 HS2 HM2 HT2 ⊢
  clear HL1 HS1 HM1 HT1 hl0 h0 h1 h2 h3 h4 h5 h6 h7 h8 h9 h10 h11
  have q0 : w2.cell? ⟨hb + 1, 0, none⟩ = some (.int .i64 0) := blk_cell HM2.out.f 0
  have qf0 := blk_free HM2.out.f 0
  have q1 : w2.cell? ⟨hb + 1, 1, none⟩ = some (.int .i64 0) := blk_cell HM2.out.f 1
  have qf1 := blk_free HM2.out.f 1
  have q2 : w2.cell? ⟨hb + 1, 2, none⟩ = some (.int .i64 0) := blk_cell HM2.out.f 2
  have qf2 := blk_free HM2.out.f 2
  have hlf := blk_lt HM2.out.f
  clear HM2
  go_wp2
  refine bodyPost_ret (v := .tuple #[.pointer none, .agg #[.int .i64 0, .int .i64 0, .int .i64 0]]) (by simp only [results, Tryz.results55]; go_simp) rfl ⟨rfl, ⟨?_, ?_⟩, ?_⟩
  · repeat' first | with_reducible exact HS2.out | with_reducible refine so_oth ?_ (by omega) | with_reducible refine so_dr ?_ | with_reducible refine so_al ?_
  · repeat' first | with_reducible exact HL2.out | with_reducible refine Led.oth ?_ (by omega) | with_reducible refine led_dr ?_ | with_reducible refine led_al ?_
  · have h1 := HHB.out
    repeat' first | with_reducible exact HT2.out | with_reducible refine tn_own1 ?_ (by omega) | with_reducible refine Tn.dr ?_ | with_reducible refine Tn.al ?_

set_option maxRecDepth 100000 in
set_option maxHeartbeats 2000000 in
theorem map_over (n3 n4 n5 n6 n7 n8 n9 : Int) (nm x2 : Nat) (lf tp : Bool) (b l : Nat) (s : ByteArray) (p f t : Nat) (x : St) (W : World) (h : Sr.So b l s p f t W) (hl : Led l x.ls W) (ok : x.Ok) (ht : x2 < 256) (kd sz : Int) (m : Nat) (hm : n4 * sz = (m : Int)) (hm2 : m ≤ 1000000) (rd : Sr.rdB x p t nm = true) (rd2 : Sr.rdB (x.work 1).1 (p + nm) t m = true) (hp : ((pln x2 : Int) == 1) = false) (KE0 : ∀ u, Calls Tryz.prog 101 #[.int .i64 n5] u fun e w' => e = .returned (.int .i64 kd) ∧ u = w') (KZ0 : ∀ u, Calls Tryz.prog 100 #[.int .i64 kd] u fun e w' => e = .returned (.int .i64 sz) ∧ u.grownBy w' none) :
    Calls Tryz.prog 55 #[.pointer (some ⟨b, 0, none⟩), .agg #[.int .i64 nm, .bool true, .int .i64 x2, .int .i64 n3, .int .i64 n4, .int .i64 n5, .int .i64 n6, .int .i64 n7, .int .i64 n8, .int .i64 n9, .bool lf, .bool tp]] W (fun e w' => e = .returned (.tuple #[.pointer none, .agg #[.int .i64 0, .int .i64 0, .int .i64 0]]) ∧ (Sr.So b l s (p + nm + m) f t w' ∧ Led l ((x.work 1).1.work 1).1.ls w') ∧ Tn W w' [b, l]) := by
  have hblt := h.lt
  have hllt := hl.lt
  have hbl := h.bl
  have HS := Lib.hid h
  have HL := Lib.hid hl
  have KS := Lib.hid (fun u (hu : Sr.So b l s p f t u) (hlu : Led l x.ls u) => Sr.skip_yes b l s p f t nm x u hu hlu ok rd)
  have KP0 := fun u => tplain_calls x2 ht u
  obtain ⟨y, hy⟩ : ∃ y : Int, (pln x2 : Int) = y := ⟨_, rfl⟩
  simp only [hy] at KP0
  rw [hy] at hp
  have KP := Lib.hid KP0
  have KE := Lib.hid KE0
  have KZ := Lib.hid KZ0
  have hw : IntKind.i64.wrap (n4 * sz) = m := by rw [hm]; exact IntWalk.i64_in _ (by omega)
  have KS2 := Lib.hid (fun u (hu : Sr.So b l s (p + nm) f t u) (hlu : Led l (x.work 1).1.ls u) => Sr.skip_yes b l s (p + nm) f t m (x.work 1).1 u hu hlu (ok.work 1) rd2)
  clear KP0 KE0 KZ0 h hl ok rd rd2 hy hm
  go_enter Tryz.func55, Tryz.ntmps55
  go_wp2_with fail
  have hH : ((W.alloc (.cells #[.int .i64 nm, .bool true, .int .i64 x2, .int .i64 n3, .int .i64 n4, .int .i64 n5, .int .i64 n6, .int .i64 n7, .int .i64 n8, .int .i64 n9, .bool lf, .bool tp] 55)).alloc (.cells #[.int .i64 0, .int .i64 0, .int .i64 0] 29)).heap[W.heap.size]? = some (.cells #[.int .i64 nm, .bool true, .int .i64 x2, .int .i64 n3, .int .i64 n4, .int .i64 n5, .int .i64 n6, .int .i64 n7, .int .i64 n8, .int .i64 n9, .bool lf, .bool tp] 55 (0, 0)) := blk_al blk_at _
  have hR : ((W.alloc (.cells #[.int .i64 nm, .bool true, .int .i64 x2, .int .i64 n3, .int .i64 n4, .int .i64 n5, .int .i64 n6, .int .i64 n7, .int .i64 n8, .int .i64 n9, .bool lf, .bool tp] 55)).alloc (.cells #[.int .i64 0, .int .i64 0, .int .i64 0] 29)).heap[W.heap.size + 1]? = some (.cells #[.int .i64 0, .int .i64 0, .int .i64 0] 29 (0, 0)) := by rw [← size_alloc W (.cells #[.int .i64 nm, .bool true, .int .i64 x2, .int .i64 n3, .int .i64 n4, .int .i64 n5, .int .i64 n6, .int .i64 n7, .int .i64 n8, .int .i64 n9, .bool lf, .bool tp] 55)]; exact blk_at
  have hG : W.grownBy ((W.alloc (.cells #[.int .i64 nm, .bool true, .int .i64 x2, .int .i64 n3, .int .i64 n4, .int .i64 n5, .int .i64 n6, .int .i64 n7, .int .i64 n8, .int .i64 n9, .bool lf, .bool tp] 55)).alloc (.cells #[.int .i64 0, .int .i64 0, .int .i64 0] 29)) none := gb_trans (World.grownBy_alloc _ _ _) (World.grownBy_alloc _ _ _)
  obtain ⟨hb, hhb⟩ : ∃ r, W.heap.size = r := ⟨_, rfl⟩
  rw [hhb] at hH hR hblt hllt ⊢
  have HHB := Lib.hid hhb
  generalize (W.alloc (.cells #[.int .i64 nm, .bool true, .int .i64 x2, .int .i64 n3, .int .i64 n4, .int .i64 n5, .int .i64 n6, .int .i64 n7, .int .i64 n8, .int .i64 n9, .bool lf, .bool tp] 55)).alloc (.cells #[.int .i64 0, .int .i64 0, .int .i64 0] 29) = w0 at hH hR hG ⊢
  have HM := Lib.hid (show MZ hb (nm : Nat) n3 n4 n5 n6 n7 n8 n9 x2 true lf tp w0 from ⟨hH, hR⟩)
  have HG := Lib.hid hG
  have HS0 := Lib.hid (HS.out.grown hG (by simp))
  have HL0 := Lib.hid (HL.out.grown hG (by simp))
  have hl0 := blk_lt hH
  have hl1 := blk_lt hR
  clear hH hR hG hhb HS HL
  have HM0 := HM
  have HT0 := Lib.hid (show Tn W w0 [b, l] from Tn.gb HG.out (by simp))
  clear HM HG hl0 hl1
  have h0 : w0.cell? ⟨hb, 0, none⟩ = some (.int .i64 nm) := blk_cell HM0.out.h 0
  have h1 : w0.cell? ⟨hb, 1, none⟩ = some (.bool true) := blk_cell HM0.out.h 1
  have h2 : w0.cell? ⟨hb, 2, none⟩ = some (.int .i64 x2) := blk_cell HM0.out.h 2
  have h3 : w0.cell? ⟨hb, 3, none⟩ = some (.int .i64 n3) := blk_cell HM0.out.h 3
  have h4 : w0.cell? ⟨hb, 4, none⟩ = some (.int .i64 n4) := blk_cell HM0.out.h 4
  have h5 : w0.cell? ⟨hb, 5, none⟩ = some (.int .i64 n5) := blk_cell HM0.out.h 5
  have h6 : w0.cell? ⟨hb, 6, none⟩ = some (.int .i64 n6) := blk_cell HM0.out.h 6
  have h7 : w0.cell? ⟨hb, 7, none⟩ = some (.int .i64 n7) := blk_cell HM0.out.h 7
  have h8 : w0.cell? ⟨hb, 8, none⟩ = some (.int .i64 n8) := blk_cell HM0.out.h 8
  have h9 : w0.cell? ⟨hb, 9, none⟩ = some (.int .i64 n9) := blk_cell HM0.out.h 9
  have h10 : w0.cell? ⟨hb, 10, none⟩ = some (.bool lf) := blk_cell HM0.out.h 10
  have h11 : w0.cell? ⟨hb, 11, none⟩ = some (.bool tp) := blk_cell HM0.out.h 11
  have hl0 := blk_lt HM0.out.h
  refine (KS.out _ HS0.out HL0.out).mono ?_
  rintro e w1 ⟨rfl, ⟨S1, L1⟩, t1⟩
  have HS1 := Lib.hid S1
  have HL1 := Lib.hid L1
  have HM1 := Lib.hid (HM0.out.turned t1 (by simp; omega) (by simp; omega))
  have HT1 := Lib.hid (HT0.out.trans t1)
  clear t1 S1 L1 HL0 HS0 HM0 HT0
  clear hl0 h0 h1 h2 h3 h4 h5 h6 h7 h8 h9 h10 h11
  have h0 : w1.cell? ⟨hb, 0, none⟩ = some (.int .i64 nm) := blk_cell HM1.out.h 0
  have h1 : w1.cell? ⟨hb, 1, none⟩ = some (.bool true) := blk_cell HM1.out.h 1
  have h2 : w1.cell? ⟨hb, 2, none⟩ = some (.int .i64 x2) := blk_cell HM1.out.h 2
  have h3 : w1.cell? ⟨hb, 3, none⟩ = some (.int .i64 n3) := blk_cell HM1.out.h 3
  have h4 : w1.cell? ⟨hb, 4, none⟩ = some (.int .i64 n4) := blk_cell HM1.out.h 4
  have h5 : w1.cell? ⟨hb, 5, none⟩ = some (.int .i64 n5) := blk_cell HM1.out.h 5
  have h6 : w1.cell? ⟨hb, 6, none⟩ = some (.int .i64 n6) := blk_cell HM1.out.h 6
  have h7 : w1.cell? ⟨hb, 7, none⟩ = some (.int .i64 n7) := blk_cell HM1.out.h 7
  have h8 : w1.cell? ⟨hb, 8, none⟩ = some (.int .i64 n8) := blk_cell HM1.out.h 8
  have h9 : w1.cell? ⟨hb, 9, none⟩ = some (.int .i64 n9) := blk_cell HM1.out.h 9
  have h10 : w1.cell? ⟨hb, 10, none⟩ = some (.bool lf) := blk_cell HM1.out.h 10
  have h11 : w1.cell? ⟨hb, 11, none⟩ = some (.bool tp) := blk_cell HM1.out.h 11
  have hl0 := blk_lt HM1.out.h
  go_wp2_with fail
  refine (KP.out _).mono ?_
  rintro e w' ⟨rfl, rfl⟩
  go_wp2_with fail
  go_region_held3 (fun w' => w'.cell? ⟨hb, 1, none⟩ = some (.bool true) ∧ w'.cell? ⟨hb, 4, none⟩ = some (.int .i64 n4) ∧ w'.cell? ⟨hb, 5, none⟩ = some (.int .i64 n5)) (go_keep) (first
    | (go_at_call 101; refine (KE.out _).mono ?_; rintro e w' ⟨rfl, rfl⟩)
    | (go_at_call 100; refine (KZ.out _).mono ?_; rintro e w2 ⟨rfl, g2⟩; have HL2 := Lib.hid (show Led l (x.work 1).1.ls w2 from by first | exact HL1.out.grown g2 (by simp) | exact (led_dr HL1.out).grown g2 (by simp)); have HS2 := Lib.hid (show Sr.So b l s (p + nm) f t w2 from by first | exact HS1.out.grown g2 (by simp) | exact (so_dr HS1.out).grown g2 (by simp)); have HM2 := Lib.hid (show MZ hb (nm : Nat) n3 n4 n5 n6 n7 n8 n9 x2 true lf tp w2 from by first | exact HM1.out.turned (Tn.gb g2 (S := []) (by simp)) (by simp) (by simp) | exact (show MZ hb (nm : Nat) n3 n4 n5 n6 n7 n8 n9 x2 true lf tp w1.drew from ⟨HM1.out.h, HM1.out.f⟩).turned (Tn.gb g2 (S := []) (by simp)) (by simp) (by simp)); have HT2 := Lib.hid (show Tn W w2 [b, l] from by first | exact HT1.out.trans (Tn.gb g2 (by simp)) | exact (Tn.dr HT1.out).trans (Tn.gb g2 (by simp))); have k1 := blk_cell HM2.out.h 1; have k4 := blk_cell HM2.out.h 4; have k5 := blk_cell HM2.out.h 5)
    | (go_at_call 92; refine (KS2.out _ HS2.out HL2.out).mono ?_; rintro e w3 ⟨rfl, ⟨S3, L3⟩, t3⟩; have HS3 := Lib.hid S3; have HL3 := Lib.hid L3; have HM3 := Lib.hid (HM2.out.turned t3 (by simp; omega) (by simp; omega)); have HT3 := Lib.hid (HT2.out.trans t3); have m1 := blk_cell HM3.out.h 1; have m4 := blk_cell HM3.out.h 4; have m5 := blk_cell HM3.out.h 5))
  all_goals
    clear HL1 HS1 HM1 HT1 HL2 HS2 HM2 HT2 hl0 h0 h1 h2 h3 h4 h5 h6 h7 h8 h9 h10 h11
    have q0 : w3.cell? ⟨hb + 1, 0, none⟩ = some (.int .i64 0) := blk_cell HM3.out.f 0
    have qf0 := blk_free HM3.out.f 0
    have q1 : w3.cell? ⟨hb + 1, 1, none⟩ = some (.int .i64 0) := blk_cell HM3.out.f 1
    have qf1 := blk_free HM3.out.f 1
    have q2 : w3.cell? ⟨hb + 1, 2, none⟩ = some (.int .i64 0) := blk_cell HM3.out.f 2
    have qf2 := blk_free HM3.out.f 2
    have hlf := blk_lt HM3.out.f
    clear HM3
    go_wp2
    refine bodyPost_ret (v := .tuple #[.pointer none, .agg #[.int .i64 0, .int .i64 0, .int .i64 0]]) (by simp only [results, Tryz.results55]; go_simp) rfl ⟨rfl, ⟨?_, ?_⟩, ?_⟩
    · repeat' first | with_reducible exact HS3.out | with_reducible refine so_oth ?_ (by omega) | with_reducible refine so_dr ?_ | with_reducible refine so_al ?_
    · repeat' first | with_reducible exact HL3.out | with_reducible refine Led.oth ?_ (by omega) | with_reducible refine led_dr ?_ | with_reducible refine led_al ?_
    · have h1 := HHB.out
      repeat' first | with_reducible exact HT3.out | with_reducible refine tn_own1 ?_ (by omega) | with_reducible refine Tn.dr ?_ | with_reducible refine Tn.al ?_

set_option maxRecDepth 100000 in
set_option maxHeartbeats 2000000 in
theorem map_short (n3 n4 n5 n6 n7 n8 n9 : Int) (nm x2 : Nat) (lf tp : Bool) (b l : Nat) (s : ByteArray) (p f t : Nat) (x : St) (W : World) (h : Sr.So b l s p f t W) (hl : Led l x.ls W) (ok : x.Ok) (ht : x2 < 256) (kd sz : Int) (m : Nat) (hm : n4 * sz = (m : Int)) (hm2 : m ≤ 1000000) (rd : Sr.rdB x p t nm = true) (rd2 : Sr.rdB (x.work 1).1 (p + nm) t m = false) (hp : ((pln x2 : Int) == 1) = false) (KE0 : ∀ u, Calls Tryz.prog 101 #[.int .i64 n5] u fun e w' => e = .returned (.int .i64 kd) ∧ u = w') (KZ0 : ∀ u, Calls Tryz.prog 100 #[.int .i64 kd] u fun e w' => e = .returned (.int .i64 sz) ∧ u.grownBy w' none) (k a : Int) (hf : (if (((x.work 1).1.work 1).1).r = 0 then Value.agg #[.int .i64 1, .int .i64 2, .int .i64 t] else .agg #[.int .i64 4, .int .i64 2, .int .i64 ((p + nm : Nat) : Int)]) = .agg #[.int .i64 k, .int .i64 2, .int .i64 a]) :
    Calls Tryz.prog 55 #[.pointer (some ⟨b, 0, none⟩), .agg #[.int .i64 nm, .bool true, .int .i64 x2, .int .i64 n3, .int .i64 n4, .int .i64 n5, .int .i64 n6, .int .i64 n7, .int .i64 n8, .int .i64 n9, .bool lf, .bool tp]] W (fun e w' => e = .returned (.tuple #[.pointer none, .agg #[.int .i64 k, .int .i64 2, .int .i64 a]]) ∧ (Sr.So b l s (p + nm) f t w' ∧ Led l ((x.work 1).1.work 1).1.ls w') ∧ Tn W w' [b, l]) := by
  have hblt := h.lt
  have hllt := hl.lt
  have hbl := h.bl
  have HS := Lib.hid h
  have HL := Lib.hid hl
  have KS := Lib.hid (fun u (hu : Sr.So b l s p f t u) (hlu : Led l x.ls u) => Sr.skip_yes b l s p f t nm x u hu hlu ok rd)
  have KP0 := fun u => tplain_calls x2 ht u
  obtain ⟨y, hy⟩ : ∃ y : Int, (pln x2 : Int) = y := ⟨_, rfl⟩
  simp only [hy] at KP0
  rw [hy] at hp
  have KP := Lib.hid KP0
  have KE := Lib.hid KE0
  have KZ := Lib.hid KZ0
  have hw : IntKind.i64.wrap (n4 * sz) = m := by rw [hm]; exact IntWalk.i64_in _ (by omega)
  have KS2 := Lib.hid (fun u (hu : Sr.So b l s (p + nm) f t u) (hlu : Led l (x.work 1).1.ls u) => Sr.skip_no b l s (p + nm) f t (x.work 1).1 m u hu hlu (ok.work 1) rd2)
  have KF0 := fun u (hu : Sr.So b l s (p + nm) f t u) (hlu : Led l ((x.work 1).1.work 1).1.ls u) => Sr.fault_calls b l s (p + nm) f t ((x.work 1).1.work 1).1 2 u hu hlu
  rw [hf] at KF0
  have KF := Lib.hid KF0
  clear KF0 KP0 KE0 KZ0 h hl ok rd rd2 hy hm hf
  go_enter Tryz.func55, Tryz.ntmps55
  go_wp2_with fail
  have hH : ((W.alloc (.cells #[.int .i64 nm, .bool true, .int .i64 x2, .int .i64 n3, .int .i64 n4, .int .i64 n5, .int .i64 n6, .int .i64 n7, .int .i64 n8, .int .i64 n9, .bool lf, .bool tp] 55)).alloc (.cells #[.int .i64 0, .int .i64 0, .int .i64 0] 29)).heap[W.heap.size]? = some (.cells #[.int .i64 nm, .bool true, .int .i64 x2, .int .i64 n3, .int .i64 n4, .int .i64 n5, .int .i64 n6, .int .i64 n7, .int .i64 n8, .int .i64 n9, .bool lf, .bool tp] 55 (0, 0)) := blk_al blk_at _
  have hR : ((W.alloc (.cells #[.int .i64 nm, .bool true, .int .i64 x2, .int .i64 n3, .int .i64 n4, .int .i64 n5, .int .i64 n6, .int .i64 n7, .int .i64 n8, .int .i64 n9, .bool lf, .bool tp] 55)).alloc (.cells #[.int .i64 0, .int .i64 0, .int .i64 0] 29)).heap[W.heap.size + 1]? = some (.cells #[.int .i64 0, .int .i64 0, .int .i64 0] 29 (0, 0)) := by rw [← size_alloc W (.cells #[.int .i64 nm, .bool true, .int .i64 x2, .int .i64 n3, .int .i64 n4, .int .i64 n5, .int .i64 n6, .int .i64 n7, .int .i64 n8, .int .i64 n9, .bool lf, .bool tp] 55)]; exact blk_at
  have hG : W.grownBy ((W.alloc (.cells #[.int .i64 nm, .bool true, .int .i64 x2, .int .i64 n3, .int .i64 n4, .int .i64 n5, .int .i64 n6, .int .i64 n7, .int .i64 n8, .int .i64 n9, .bool lf, .bool tp] 55)).alloc (.cells #[.int .i64 0, .int .i64 0, .int .i64 0] 29)) none := gb_trans (World.grownBy_alloc _ _ _) (World.grownBy_alloc _ _ _)
  obtain ⟨hb, hhb⟩ : ∃ r, W.heap.size = r := ⟨_, rfl⟩
  rw [hhb] at hH hR hblt hllt ⊢
  have HHB := Lib.hid hhb
  generalize (W.alloc (.cells #[.int .i64 nm, .bool true, .int .i64 x2, .int .i64 n3, .int .i64 n4, .int .i64 n5, .int .i64 n6, .int .i64 n7, .int .i64 n8, .int .i64 n9, .bool lf, .bool tp] 55)).alloc (.cells #[.int .i64 0, .int .i64 0, .int .i64 0] 29) = w0 at hH hR hG ⊢
  have HM := Lib.hid (show MZ hb (nm : Nat) n3 n4 n5 n6 n7 n8 n9 x2 true lf tp w0 from ⟨hH, hR⟩)
  have HG := Lib.hid hG
  have HS0 := Lib.hid (HS.out.grown hG (by simp))
  have HL0 := Lib.hid (HL.out.grown hG (by simp))
  have hl0 := blk_lt hH
  have hl1 := blk_lt hR
  clear hH hR hG hhb HS HL
  have HM0 := HM
  have HT0 := Lib.hid (show Tn W w0 [b, l] from Tn.gb HG.out (by simp))
  clear HM HG hl0 hl1
  have h0 : w0.cell? ⟨hb, 0, none⟩ = some (.int .i64 nm) := blk_cell HM0.out.h 0
  have h1 : w0.cell? ⟨hb, 1, none⟩ = some (.bool true) := blk_cell HM0.out.h 1
  have h2 : w0.cell? ⟨hb, 2, none⟩ = some (.int .i64 x2) := blk_cell HM0.out.h 2
  have h3 : w0.cell? ⟨hb, 3, none⟩ = some (.int .i64 n3) := blk_cell HM0.out.h 3
  have h4 : w0.cell? ⟨hb, 4, none⟩ = some (.int .i64 n4) := blk_cell HM0.out.h 4
  have h5 : w0.cell? ⟨hb, 5, none⟩ = some (.int .i64 n5) := blk_cell HM0.out.h 5
  have h6 : w0.cell? ⟨hb, 6, none⟩ = some (.int .i64 n6) := blk_cell HM0.out.h 6
  have h7 : w0.cell? ⟨hb, 7, none⟩ = some (.int .i64 n7) := blk_cell HM0.out.h 7
  have h8 : w0.cell? ⟨hb, 8, none⟩ = some (.int .i64 n8) := blk_cell HM0.out.h 8
  have h9 : w0.cell? ⟨hb, 9, none⟩ = some (.int .i64 n9) := blk_cell HM0.out.h 9
  have h10 : w0.cell? ⟨hb, 10, none⟩ = some (.bool lf) := blk_cell HM0.out.h 10
  have h11 : w0.cell? ⟨hb, 11, none⟩ = some (.bool tp) := blk_cell HM0.out.h 11
  have hl0 := blk_lt HM0.out.h
  refine (KS.out _ HS0.out HL0.out).mono ?_
  rintro e w1 ⟨rfl, ⟨S1, L1⟩, t1⟩
  have HS1 := Lib.hid S1
  have HL1 := Lib.hid L1
  have HM1 := Lib.hid (HM0.out.turned t1 (by simp; omega) (by simp; omega))
  have HT1 := Lib.hid (HT0.out.trans t1)
  clear t1 S1 L1 HL0 HS0 HM0 HT0
  clear hl0 h0 h1 h2 h3 h4 h5 h6 h7 h8 h9 h10 h11
  have h0 : w1.cell? ⟨hb, 0, none⟩ = some (.int .i64 nm) := blk_cell HM1.out.h 0
  have h1 : w1.cell? ⟨hb, 1, none⟩ = some (.bool true) := blk_cell HM1.out.h 1
  have h2 : w1.cell? ⟨hb, 2, none⟩ = some (.int .i64 x2) := blk_cell HM1.out.h 2
  have h3 : w1.cell? ⟨hb, 3, none⟩ = some (.int .i64 n3) := blk_cell HM1.out.h 3
  have h4 : w1.cell? ⟨hb, 4, none⟩ = some (.int .i64 n4) := blk_cell HM1.out.h 4
  have h5 : w1.cell? ⟨hb, 5, none⟩ = some (.int .i64 n5) := blk_cell HM1.out.h 5
  have h6 : w1.cell? ⟨hb, 6, none⟩ = some (.int .i64 n6) := blk_cell HM1.out.h 6
  have h7 : w1.cell? ⟨hb, 7, none⟩ = some (.int .i64 n7) := blk_cell HM1.out.h 7
  have h8 : w1.cell? ⟨hb, 8, none⟩ = some (.int .i64 n8) := blk_cell HM1.out.h 8
  have h9 : w1.cell? ⟨hb, 9, none⟩ = some (.int .i64 n9) := blk_cell HM1.out.h 9
  have h10 : w1.cell? ⟨hb, 10, none⟩ = some (.bool lf) := blk_cell HM1.out.h 10
  have h11 : w1.cell? ⟨hb, 11, none⟩ = some (.bool tp) := blk_cell HM1.out.h 11
  have hl0 := blk_lt HM1.out.h
  go_wp2_with fail
  refine (KP.out _).mono ?_
  rintro e w' ⟨rfl, rfl⟩
  go_wp2_with fail
  go_region_held3 (fun w' => w'.cell? ⟨hb, 1, none⟩ = some (.bool true) ∧ w'.cell? ⟨hb, 4, none⟩ = some (.int .i64 n4) ∧ w'.cell? ⟨hb, 5, none⟩ = some (.int .i64 n5)) (go_keep) (first
    | (go_at_call 101; refine (KE.out _).mono ?_; rintro e w' ⟨rfl, rfl⟩)
    | (go_at_call 100; refine (KZ.out _).mono ?_; rintro e w2 ⟨rfl, g2⟩; have HL2 := Lib.hid (show Led l (x.work 1).1.ls w2 from by first | exact HL1.out.grown g2 (by simp) | exact (led_dr HL1.out).grown g2 (by simp)); have HS2 := Lib.hid (show Sr.So b l s (p + nm) f t w2 from by first | exact HS1.out.grown g2 (by simp) | exact (so_dr HS1.out).grown g2 (by simp)); have HM2 := Lib.hid (show MZ hb (nm : Nat) n3 n4 n5 n6 n7 n8 n9 x2 true lf tp w2 from by first | exact HM1.out.turned (Tn.gb g2 (S := []) (by simp)) (by simp) (by simp) | exact (show MZ hb (nm : Nat) n3 n4 n5 n6 n7 n8 n9 x2 true lf tp w1.drew from ⟨HM1.out.h, HM1.out.f⟩).turned (Tn.gb g2 (S := []) (by simp)) (by simp) (by simp)); have HT2 := Lib.hid (show Tn W w2 [b, l] from by first | exact HT1.out.trans (Tn.gb g2 (by simp)) | exact (Tn.dr HT1.out).trans (Tn.gb g2 (by simp))); have k1 := blk_cell HM2.out.h 1; have k4 := blk_cell HM2.out.h 4; have k5 := blk_cell HM2.out.h 5)
    | (go_at_call 92; refine (KS2.out _ HS2.out HL2.out).mono ?_; rintro e w3 ⟨rfl, ⟨S3, L3⟩, t3⟩; have HS3 := Lib.hid S3; have HL3 := Lib.hid L3; have HM3 := Lib.hid (HM2.out.turned (Tn.gb t3 (S := [b, l]) (by simp)) (by simp; omega) (by simp; omega)); have HT3 := Lib.hid (HT2.out.trans (Tn.gb t3 (S := [b, l]) (by simp))); have m1 := blk_cell HM3.out.h 1; have m4 := blk_cell HM3.out.h 4; have m5 := blk_cell HM3.out.h 5))
  all_goals
    clear HL1 HS1 HM1 HT1 HL2 HS2 HM2 HT2 hl0 h0 h1 h2 h3 h4 h5 h6 h7 h8 h9 h10 h11
    have y0 : w3.cell? ⟨hb + 1, 0, none⟩ = some (.int .i64 0) := blk_cell HM3.out.f 0
    have yf0 := blk_free HM3.out.f 0
    have y1 : w3.cell? ⟨hb + 1, 1, none⟩ = some (.int .i64 0) := blk_cell HM3.out.f 1
    have yf1 := blk_free HM3.out.f 1
    have y2 : w3.cell? ⟨hb + 1, 2, none⟩ = some (.int .i64 0) := blk_cell HM3.out.f 2
    have yf2 := blk_free HM3.out.f 2
    have ylf := blk_lt HM3.out.f
    go_wp2_with fail
    refine (KF.out _ HS3.out HL3.out).mono ?_
    rintro e w4 ⟨rfl, g4⟩
    have HL4 := Lib.hid (HL3.out.grown g4 (by simp))
    have HS4 := Lib.hid (HS3.out.grown g4 (by simp))
    have HM4 := Lib.hid (HM3.out.turned (Tn.gb g4 (S := []) (by simp)) (by simp) (by simp))
    have HT4 := Lib.hid (HT3.out.trans (Tn.gb g4 (by simp)))
    clear g4 HL3 HS3 HM3 HT3 y0 y1 y2 yf0 yf1 yf2 ylf KF
    have q0 : w4.cell? ⟨hb + 1, 0, none⟩ = some (.int .i64 0) := blk_cell HM4.out.f 0
    have qf0 := blk_free HM4.out.f 0
    have q1 : w4.cell? ⟨hb + 1, 1, none⟩ = some (.int .i64 0) := blk_cell HM4.out.f 1
    have qf1 := blk_free HM4.out.f 1
    have q2 : w4.cell? ⟨hb + 1, 2, none⟩ = some (.int .i64 0) := blk_cell HM4.out.f 2
    have qf2 := blk_free HM4.out.f 2
    have hlf := blk_lt HM4.out.f
    clear HM4
    go_wp2
    refine bodyPost_ret (v := .tuple #[.pointer none, .agg #[.int .i64 k, .int .i64 2, .int .i64 a]]) (by simp only [results, Tryz.results55]; go_simp) rfl ⟨rfl, ⟨?_, ?_⟩, ?_⟩
    · repeat' first | with_reducible exact HS4.out | with_reducible refine so_oth ?_ (by omega) | with_reducible refine so_dr ?_ | with_reducible refine so_al ?_
    · repeat' first | with_reducible exact HL4.out | with_reducible refine Led.oth ?_ (by omega) | with_reducible refine led_dr ?_ | with_reducible refine led_al ?_
    · have h1 := HHB.out
      repeat' first | with_reducible exact HT4.out | with_reducible refine tn_own1 ?_ (by omega) | with_reducible refine Tn.dr ?_ | with_reducible refine Tn.al ?_

set_option maxRecDepth 100000 in
set_option maxHeartbeats 2000000 in
theorem map_mapped (n3 n4 n5 n6 n7 n8 n9 : Int) (nm x2 : Nat) (mp lf tp : Bool) (b l : Nat) (s : ByteArray) (p f t : Nat) (x : St) (W : World) (h : Sr.So b l s p f t W) (hl : Led l x.ls W) (ok : x.Ok) (ht : x2 < 256) (sz cnt : Nat) (Y : St) (D : Nat → Nat → Int) (rd : Sr.rdB x p t nm = true) (hp : pln x2 = 1) (KN0 : ∀ u, Sr.So b l s (p + nm) f t u → Led l (x.work 1).1.ls u → Calls Tryz.prog 99 #[.pointer (some ⟨b, 0, none⟩), .agg #[.int .i64 nm, .bool mp, .int .i64 x2, .int .i64 n3, .int .i64 n4, .int .i64 n5, .int .i64 n6, .int .i64 n7, .int .i64 n8, .int .i64 n9, .bool lf, .bool tp]] u (EY u b l s (p + nm) f t sz cnt Y D)) :
    Calls Tryz.prog 55 #[.pointer (some ⟨b, 0, none⟩), .agg #[.int .i64 nm, .bool mp, .int .i64 x2, .int .i64 n3, .int .i64 n4, .int .i64 n5, .int .i64 n6, .int .i64 n7, .int .i64 n8, .int .i64 n9, .bool lf, .bool tp]] W (EY W b l s (p + nm) f t sz cnt Y D) := by
  have hblt := h.lt
  have hllt := hl.lt
  have hbl := h.bl
  have HS := Lib.hid h
  have HL := Lib.hid hl
  have KS := Lib.hid (fun u (hu : Sr.So b l s p f t u) (hlu : Led l x.ls u) => Sr.skip_yes b l s p f t nm x u hu hlu ok rd)
  have KP0 := fun u => tplain_calls x2 ht u
  obtain ⟨y, hy⟩ : ∃ y : Int, (pln x2 : Int) = y := ⟨_, rfl⟩
  simp only [hy] at KP0
  have hy1 : (y == 1) = true := by rw [← hy, hp]; rfl
  have KP := Lib.hid KP0
  have KN := Lib.hid KN0
  clear KP0 KN0 h hl ok rd hy hp
  go_enter Tryz.func55, Tryz.ntmps55
  go_wp2_with fail
  have hH : ((W.alloc (.cells #[.int .i64 nm, .bool mp, .int .i64 x2, .int .i64 n3, .int .i64 n4, .int .i64 n5, .int .i64 n6, .int .i64 n7, .int .i64 n8, .int .i64 n9, .bool lf, .bool tp] 55)).alloc (.cells #[.int .i64 0, .int .i64 0, .int .i64 0] 29)).heap[W.heap.size]? = some (.cells #[.int .i64 nm, .bool mp, .int .i64 x2, .int .i64 n3, .int .i64 n4, .int .i64 n5, .int .i64 n6, .int .i64 n7, .int .i64 n8, .int .i64 n9, .bool lf, .bool tp] 55 (0, 0)) := blk_al blk_at _
  have hR : ((W.alloc (.cells #[.int .i64 nm, .bool mp, .int .i64 x2, .int .i64 n3, .int .i64 n4, .int .i64 n5, .int .i64 n6, .int .i64 n7, .int .i64 n8, .int .i64 n9, .bool lf, .bool tp] 55)).alloc (.cells #[.int .i64 0, .int .i64 0, .int .i64 0] 29)).heap[W.heap.size + 1]? = some (.cells #[.int .i64 0, .int .i64 0, .int .i64 0] 29 (0, 0)) := by rw [← size_alloc W (.cells #[.int .i64 nm, .bool mp, .int .i64 x2, .int .i64 n3, .int .i64 n4, .int .i64 n5, .int .i64 n6, .int .i64 n7, .int .i64 n8, .int .i64 n9, .bool lf, .bool tp] 55)]; exact blk_at
  have hG : W.grownBy ((W.alloc (.cells #[.int .i64 nm, .bool mp, .int .i64 x2, .int .i64 n3, .int .i64 n4, .int .i64 n5, .int .i64 n6, .int .i64 n7, .int .i64 n8, .int .i64 n9, .bool lf, .bool tp] 55)).alloc (.cells #[.int .i64 0, .int .i64 0, .int .i64 0] 29)) none := gb_trans (World.grownBy_alloc _ _ _) (World.grownBy_alloc _ _ _)
  obtain ⟨hb, hhb⟩ : ∃ r, W.heap.size = r := ⟨_, rfl⟩
  rw [hhb] at hH hR hblt hllt ⊢
  have HHB := Lib.hid hhb
  generalize (W.alloc (.cells #[.int .i64 nm, .bool mp, .int .i64 x2, .int .i64 n3, .int .i64 n4, .int .i64 n5, .int .i64 n6, .int .i64 n7, .int .i64 n8, .int .i64 n9, .bool lf, .bool tp] 55)).alloc (.cells #[.int .i64 0, .int .i64 0, .int .i64 0] 29) = w0 at hH hR hG ⊢
  have HM := Lib.hid (show MZ hb (nm : Nat) n3 n4 n5 n6 n7 n8 n9 x2 mp lf tp w0 from ⟨hH, hR⟩)
  have HG := Lib.hid hG
  have HS0 := Lib.hid (HS.out.grown hG (by simp))
  have HL0 := Lib.hid (HL.out.grown hG (by simp))
  have hl0 := blk_lt hH
  have hl1 := blk_lt hR
  clear hH hR hG hhb HS HL
  have HM0 := HM
  have HT0 := Lib.hid (show Tn W w0 [b, l] from Tn.gb HG.out (by simp))
  clear HM HG hl0 hl1
  have h0 : w0.cell? ⟨hb, 0, none⟩ = some (.int .i64 nm) := blk_cell HM0.out.h 0
  have h1 : w0.cell? ⟨hb, 1, none⟩ = some (.bool mp) := blk_cell HM0.out.h 1
  have h2 : w0.cell? ⟨hb, 2, none⟩ = some (.int .i64 x2) := blk_cell HM0.out.h 2
  have h3 : w0.cell? ⟨hb, 3, none⟩ = some (.int .i64 n3) := blk_cell HM0.out.h 3
  have h4 : w0.cell? ⟨hb, 4, none⟩ = some (.int .i64 n4) := blk_cell HM0.out.h 4
  have h5 : w0.cell? ⟨hb, 5, none⟩ = some (.int .i64 n5) := blk_cell HM0.out.h 5
  have h6 : w0.cell? ⟨hb, 6, none⟩ = some (.int .i64 n6) := blk_cell HM0.out.h 6
  have h7 : w0.cell? ⟨hb, 7, none⟩ = some (.int .i64 n7) := blk_cell HM0.out.h 7
  have h8 : w0.cell? ⟨hb, 8, none⟩ = some (.int .i64 n8) := blk_cell HM0.out.h 8
  have h9 : w0.cell? ⟨hb, 9, none⟩ = some (.int .i64 n9) := blk_cell HM0.out.h 9
  have h10 : w0.cell? ⟨hb, 10, none⟩ = some (.bool lf) := blk_cell HM0.out.h 10
  have h11 : w0.cell? ⟨hb, 11, none⟩ = some (.bool tp) := blk_cell HM0.out.h 11
  have hl0 := blk_lt HM0.out.h
  refine (KS.out _ HS0.out HL0.out).mono ?_
  rintro e w1 ⟨rfl, ⟨S1, L1⟩, t1⟩
  have HS1 := Lib.hid S1
  have HL1 := Lib.hid L1
  have HM1 := Lib.hid (HM0.out.turned t1 (by simp; omega) (by simp; omega))
  have HT1 := Lib.hid (HT0.out.trans t1)
  clear t1 S1 L1 HL0 HS0 HM0 HT0
  clear hl0 h0 h1 h2 h3 h4 h5 h6 h7 h8 h9 h10 h11
  have h0 : w1.cell? ⟨hb, 0, none⟩ = some (.int .i64 nm) := blk_cell HM1.out.h 0
  have h1 : w1.cell? ⟨hb, 1, none⟩ = some (.bool mp) := blk_cell HM1.out.h 1
  have h2 : w1.cell? ⟨hb, 2, none⟩ = some (.int .i64 x2) := blk_cell HM1.out.h 2
  have h3 : w1.cell? ⟨hb, 3, none⟩ = some (.int .i64 n3) := blk_cell HM1.out.h 3
  have h4 : w1.cell? ⟨hb, 4, none⟩ = some (.int .i64 n4) := blk_cell HM1.out.h 4
  have h5 : w1.cell? ⟨hb, 5, none⟩ = some (.int .i64 n5) := blk_cell HM1.out.h 5
  have h6 : w1.cell? ⟨hb, 6, none⟩ = some (.int .i64 n6) := blk_cell HM1.out.h 6
  have h7 : w1.cell? ⟨hb, 7, none⟩ = some (.int .i64 n7) := blk_cell HM1.out.h 7
  have h8 : w1.cell? ⟨hb, 8, none⟩ = some (.int .i64 n8) := blk_cell HM1.out.h 8
  have h9 : w1.cell? ⟨hb, 9, none⟩ = some (.int .i64 n9) := blk_cell HM1.out.h 9
  have h10 : w1.cell? ⟨hb, 10, none⟩ = some (.bool lf) := blk_cell HM1.out.h 10
  have h11 : w1.cell? ⟨hb, 11, none⟩ = some (.bool tp) := blk_cell HM1.out.h 11
  have hl0 := blk_lt HM1.out.h
  go_wp2_with fail
  refine (KP.out _).mono ?_
  rintro e w' ⟨rfl, rfl⟩
  have y0 : w1.cell? ⟨hb + 1, 0, none⟩ = some (.int .i64 0) := blk_cell HM1.out.f 0
  have yf0 := blk_free HM1.out.f 0
  have y1 : w1.cell? ⟨hb + 1, 1, none⟩ = some (.int .i64 0) := blk_cell HM1.out.f 1
  have yf1 := blk_free HM1.out.f 1
  have y2 : w1.cell? ⟨hb + 1, 2, none⟩ = some (.int .i64 0) := blk_cell HM1.out.f 2
  have yf2 := blk_free HM1.out.f 2
  have ylf := blk_lt HM1.out.f
  have hz1 := HM1.out.h
  go_wp2_with fail
  refine (KN.out _ HS1.out HL1.out).mono ?_
  rintro e w2 ⟨pa, pb, pg, SS, rfl, ⟨P2, E2, L2, S2⟩, t2, gp, gq, gg⟩
  have HM2 := Lib.hid (HM1.out.turned t2 (by simp; omega) (by simp; omega))
  have HT2 := Lib.hid (HT1.out.trans t2)
  have hw1 : hb + 1 < w1.heap.size := ylf
  have HL2 := Lib.hid L2
  have HS2 := Lib.hid S2
  have HP2 := Lib.hid P2
  have HE2 := Lib.hid E2
  clear P2 E2
  clear t2 L2 S2 HL1 HS1 HM1 HT1 hl0 hz1 h0 h1 h2 h3 h4 h5 h6 h7 h8 h9 h10 h11 y0 y1 y2 yf0 yf1 yf2 ylf
  have q0 : w2.cell? ⟨hb + 1, 0, none⟩ = some (.int .i64 0) := blk_cell HM2.out.f 0
  have qf0 := blk_free HM2.out.f 0
  have q1 : w2.cell? ⟨hb + 1, 1, none⟩ = some (.int .i64 0) := blk_cell HM2.out.f 1
  have qf1 := blk_free HM2.out.f 1
  have q2 : w2.cell? ⟨hb + 1, 2, none⟩ = some (.int .i64 0) := blk_cell HM2.out.f 2
  have qf2 := blk_free HM2.out.f 2
  have hlf := blk_lt HM2.out.f
  clear HM2
  go_wp2
  refine bodyPost_ret (v := .tuple #[.pointer (some ⟨pa, 0, none⟩), .agg #[.int .i64 0, .int .i64 0, .int .i64 0]]) (by simp only [results, Tryz.results55]; go_simp) rfl ⟨pa, pb, pg, SS, rfl, ⟨?_, HE2.out, ?_, ?_⟩, ?_, ?_⟩
  · repeat' first | with_reducible exact HP2.out | with_reducible refine po_oth ?_ (by omega) (by omega) (by omega) | with_reducible refine po_dr ?_ | with_reducible refine po_al ?_
  · repeat' first | with_reducible exact HL2.out | with_reducible refine Led.oth ?_ (by omega) | with_reducible refine led_dr ?_ | with_reducible refine led_al ?_
  · repeat' first | with_reducible exact HS2.out | with_reducible refine so_oth ?_ (by omega) | with_reducible refine so_dr ?_ | with_reducible refine so_al ?_
  · have h1 := HHB.out
    repeat' first | with_reducible exact HT2.out | with_reducible refine tn_own1 ?_ (by omega) | with_reducible refine Tn.dr ?_ | with_reducible refine Tn.al ?_
  · have h1 := HHB.out
    exact ⟨by omega, by omega, by omega⟩

set_option maxRecDepth 100000 in
set_option maxHeartbeats 2000000 in
theorem map_wanted (n3 n4 n5 n6 n7 n8 n9 : Int) (nm x2 : Nat) (mp lf tp : Bool) (b l : Nat) (s : ByteArray) (p f t : Nat) (x : St) (W : World) (h : Sr.So b l s p f t W) (hl : Led l x.ls W) (ok : x.Ok) (ht : x2 < 256) (sz cnt K : Nat) (Y : St) (k a : Int) (rd : Sr.rdB x p t nm = true) (hp : pln x2 = 1) (KN0 : ∀ u, Sr.So b l s (p + nm) f t u → Led l (x.work 1).1.ls u → Calls Tryz.prog 99 #[.pointer (some ⟨b, 0, none⟩), .agg #[.int .i64 nm, .bool mp, .int .i64 x2, .int .i64 n3, .int .i64 n4, .int .i64 n5, .int .i64 n6, .int .i64 n7, .int .i64 n8, .int .i64 n9, .bool lf, .bool tp]] u (ES u b l s (p + nm) f t sz cnt K Y k a)) :
    Calls Tryz.prog 55 #[.pointer (some ⟨b, 0, none⟩), .agg #[.int .i64 nm, .bool mp, .int .i64 x2, .int .i64 n3, .int .i64 n4, .int .i64 n5, .int .i64 n6, .int .i64 n7, .int .i64 n8, .int .i64 n9, .bool lf, .bool tp]] W (ES W b l s (p + nm) f t sz cnt K Y k a) := by
  have hblt := h.lt
  have hllt := hl.lt
  have hbl := h.bl
  have HS := Lib.hid h
  have HL := Lib.hid hl
  have KS := Lib.hid (fun u (hu : Sr.So b l s p f t u) (hlu : Led l x.ls u) => Sr.skip_yes b l s p f t nm x u hu hlu ok rd)
  have KP0 := fun u => tplain_calls x2 ht u
  obtain ⟨y, hy⟩ : ∃ y : Int, (pln x2 : Int) = y := ⟨_, rfl⟩
  simp only [hy] at KP0
  have hy1 : (y == 1) = true := by rw [← hy, hp]; rfl
  have KP := Lib.hid KP0
  have KN := Lib.hid KN0
  clear KP0 KN0 h hl ok rd hy hp
  go_enter Tryz.func55, Tryz.ntmps55
  go_wp2_with fail
  have hH : ((W.alloc (.cells #[.int .i64 nm, .bool mp, .int .i64 x2, .int .i64 n3, .int .i64 n4, .int .i64 n5, .int .i64 n6, .int .i64 n7, .int .i64 n8, .int .i64 n9, .bool lf, .bool tp] 55)).alloc (.cells #[.int .i64 0, .int .i64 0, .int .i64 0] 29)).heap[W.heap.size]? = some (.cells #[.int .i64 nm, .bool mp, .int .i64 x2, .int .i64 n3, .int .i64 n4, .int .i64 n5, .int .i64 n6, .int .i64 n7, .int .i64 n8, .int .i64 n9, .bool lf, .bool tp] 55 (0, 0)) := blk_al blk_at _
  have hR : ((W.alloc (.cells #[.int .i64 nm, .bool mp, .int .i64 x2, .int .i64 n3, .int .i64 n4, .int .i64 n5, .int .i64 n6, .int .i64 n7, .int .i64 n8, .int .i64 n9, .bool lf, .bool tp] 55)).alloc (.cells #[.int .i64 0, .int .i64 0, .int .i64 0] 29)).heap[W.heap.size + 1]? = some (.cells #[.int .i64 0, .int .i64 0, .int .i64 0] 29 (0, 0)) := by rw [← size_alloc W (.cells #[.int .i64 nm, .bool mp, .int .i64 x2, .int .i64 n3, .int .i64 n4, .int .i64 n5, .int .i64 n6, .int .i64 n7, .int .i64 n8, .int .i64 n9, .bool lf, .bool tp] 55)]; exact blk_at
  have hG : W.grownBy ((W.alloc (.cells #[.int .i64 nm, .bool mp, .int .i64 x2, .int .i64 n3, .int .i64 n4, .int .i64 n5, .int .i64 n6, .int .i64 n7, .int .i64 n8, .int .i64 n9, .bool lf, .bool tp] 55)).alloc (.cells #[.int .i64 0, .int .i64 0, .int .i64 0] 29)) none := gb_trans (World.grownBy_alloc _ _ _) (World.grownBy_alloc _ _ _)
  obtain ⟨hb, hhb⟩ : ∃ r, W.heap.size = r := ⟨_, rfl⟩
  rw [hhb] at hH hR hblt hllt ⊢
  have HHB := Lib.hid hhb
  generalize (W.alloc (.cells #[.int .i64 nm, .bool mp, .int .i64 x2, .int .i64 n3, .int .i64 n4, .int .i64 n5, .int .i64 n6, .int .i64 n7, .int .i64 n8, .int .i64 n9, .bool lf, .bool tp] 55)).alloc (.cells #[.int .i64 0, .int .i64 0, .int .i64 0] 29) = w0 at hH hR hG ⊢
  have HM := Lib.hid (show MZ hb (nm : Nat) n3 n4 n5 n6 n7 n8 n9 x2 mp lf tp w0 from ⟨hH, hR⟩)
  have HG := Lib.hid hG
  have HS0 := Lib.hid (HS.out.grown hG (by simp))
  have HL0 := Lib.hid (HL.out.grown hG (by simp))
  have hl0 := blk_lt hH
  have hl1 := blk_lt hR
  clear hH hR hG hhb HS HL
  have HM0 := HM
  have HT0 := Lib.hid (show Tn W w0 [b, l] from Tn.gb HG.out (by simp))
  clear HM HG hl0 hl1
  have h0 : w0.cell? ⟨hb, 0, none⟩ = some (.int .i64 nm) := blk_cell HM0.out.h 0
  have h1 : w0.cell? ⟨hb, 1, none⟩ = some (.bool mp) := blk_cell HM0.out.h 1
  have h2 : w0.cell? ⟨hb, 2, none⟩ = some (.int .i64 x2) := blk_cell HM0.out.h 2
  have h3 : w0.cell? ⟨hb, 3, none⟩ = some (.int .i64 n3) := blk_cell HM0.out.h 3
  have h4 : w0.cell? ⟨hb, 4, none⟩ = some (.int .i64 n4) := blk_cell HM0.out.h 4
  have h5 : w0.cell? ⟨hb, 5, none⟩ = some (.int .i64 n5) := blk_cell HM0.out.h 5
  have h6 : w0.cell? ⟨hb, 6, none⟩ = some (.int .i64 n6) := blk_cell HM0.out.h 6
  have h7 : w0.cell? ⟨hb, 7, none⟩ = some (.int .i64 n7) := blk_cell HM0.out.h 7
  have h8 : w0.cell? ⟨hb, 8, none⟩ = some (.int .i64 n8) := blk_cell HM0.out.h 8
  have h9 : w0.cell? ⟨hb, 9, none⟩ = some (.int .i64 n9) := blk_cell HM0.out.h 9
  have h10 : w0.cell? ⟨hb, 10, none⟩ = some (.bool lf) := blk_cell HM0.out.h 10
  have h11 : w0.cell? ⟨hb, 11, none⟩ = some (.bool tp) := blk_cell HM0.out.h 11
  have hl0 := blk_lt HM0.out.h
  refine (KS.out _ HS0.out HL0.out).mono ?_
  rintro e w1 ⟨rfl, ⟨S1, L1⟩, t1⟩
  have HS1 := Lib.hid S1
  have HL1 := Lib.hid L1
  have HM1 := Lib.hid (HM0.out.turned t1 (by simp; omega) (by simp; omega))
  have HT1 := Lib.hid (HT0.out.trans t1)
  clear t1 S1 L1 HL0 HS0 HM0 HT0
  clear hl0 h0 h1 h2 h3 h4 h5 h6 h7 h8 h9 h10 h11
  have h0 : w1.cell? ⟨hb, 0, none⟩ = some (.int .i64 nm) := blk_cell HM1.out.h 0
  have h1 : w1.cell? ⟨hb, 1, none⟩ = some (.bool mp) := blk_cell HM1.out.h 1
  have h2 : w1.cell? ⟨hb, 2, none⟩ = some (.int .i64 x2) := blk_cell HM1.out.h 2
  have h3 : w1.cell? ⟨hb, 3, none⟩ = some (.int .i64 n3) := blk_cell HM1.out.h 3
  have h4 : w1.cell? ⟨hb, 4, none⟩ = some (.int .i64 n4) := blk_cell HM1.out.h 4
  have h5 : w1.cell? ⟨hb, 5, none⟩ = some (.int .i64 n5) := blk_cell HM1.out.h 5
  have h6 : w1.cell? ⟨hb, 6, none⟩ = some (.int .i64 n6) := blk_cell HM1.out.h 6
  have h7 : w1.cell? ⟨hb, 7, none⟩ = some (.int .i64 n7) := blk_cell HM1.out.h 7
  have h8 : w1.cell? ⟨hb, 8, none⟩ = some (.int .i64 n8) := blk_cell HM1.out.h 8
  have h9 : w1.cell? ⟨hb, 9, none⟩ = some (.int .i64 n9) := blk_cell HM1.out.h 9
  have h10 : w1.cell? ⟨hb, 10, none⟩ = some (.bool lf) := blk_cell HM1.out.h 10
  have h11 : w1.cell? ⟨hb, 11, none⟩ = some (.bool tp) := blk_cell HM1.out.h 11
  have hl0 := blk_lt HM1.out.h
  go_wp2_with fail
  refine (KP.out _).mono ?_
  rintro e w' ⟨rfl, rfl⟩
  have y0 : w1.cell? ⟨hb + 1, 0, none⟩ = some (.int .i64 0) := blk_cell HM1.out.f 0
  have yf0 := blk_free HM1.out.f 0
  have y1 : w1.cell? ⟨hb + 1, 1, none⟩ = some (.int .i64 0) := blk_cell HM1.out.f 1
  have yf1 := blk_free HM1.out.f 1
  have y2 : w1.cell? ⟨hb + 1, 2, none⟩ = some (.int .i64 0) := blk_cell HM1.out.f 2
  have yf2 := blk_free HM1.out.f 2
  have ylf := blk_lt HM1.out.f
  have hz1 := HM1.out.h
  go_wp2_with fail
  refine (KN.out _ HS1.out HL1.out).mono ?_
  rintro e w2 ⟨rfl, ⟨L2, S2⟩, t2⟩
  have HM2 := Lib.hid (HM1.out.turned t2 (by simp; omega) (by simp; omega))
  have HT2 := Lib.hid (HT1.out.trans t2)
  have hw1 : hb + 1 < w1.heap.size := ylf
  have HL2 := Lib.hid L2
  have HS2 := Lib.hid S2
  clear t2 L2 S2 HL1 HS1 HM1 HT1 hl0 hz1 h0 h1 h2 h3 h4 h5 h6 h7 h8 h9 h10 h11 y0 y1 y2 yf0 yf1 yf2 ylf
  have q0 : w2.cell? ⟨hb + 1, 0, none⟩ = some (.int .i64 0) := blk_cell HM2.out.f 0
  have qf0 := blk_free HM2.out.f 0
  have q1 : w2.cell? ⟨hb + 1, 1, none⟩ = some (.int .i64 0) := blk_cell HM2.out.f 1
  have qf1 := blk_free HM2.out.f 1
  have q2 : w2.cell? ⟨hb + 1, 2, none⟩ = some (.int .i64 0) := blk_cell HM2.out.f 2
  have qf2 := blk_free HM2.out.f 2
  have hlf := blk_lt HM2.out.f
  clear HM2
  go_wp2
  refine bodyPost_ret (v := .tuple #[.pointer none, .agg #[.int .i64 k, .int .i64 2, .int .i64 a]]) (by simp only [results, Tryz.results55]; go_simp) rfl ⟨rfl, ⟨?_, ?_⟩, ?_⟩
  · repeat' first | with_reducible exact HL2.out | with_reducible refine Led.oth ?_ (by omega) | with_reducible refine led_dr ?_ | with_reducible refine led_al ?_
  · repeat' first | with_reducible exact HS2.out | with_reducible refine so_oth ?_ (by omega) | with_reducible refine so_dr ?_ | with_reducible refine so_al ?_
  · have h1 := HHB.out
    repeat' first | with_reducible exact HT2.out | with_reducible refine tn_own1 ?_ (by omega) | with_reducible refine Tn.dr ?_ | with_reducible refine Tn.al ?_

end Go.Proofs.YtnieeckdldpebaaGreat.Tp
