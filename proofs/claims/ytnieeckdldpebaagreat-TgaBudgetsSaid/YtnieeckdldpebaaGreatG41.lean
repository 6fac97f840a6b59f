/- Texts of one kind, one behind the other: Tr7. -/
import Derived.Deep.CutRange
import Derived.Deep.RegionWith
import Derived.Test.YtnieeckdldpebaaGreatG32
/- Layer 17: a map that the ledger refuses (written by wip/gen/tr7.py). -/
namespace Go.Proofs.YtnieeckdldpebaaGreat.Tp
open Go.ChangeShapes Go.WideShapes Go.ChangeAt Go.RowKit
open Go.Proofs.YtnieeckdldpebaaGreat.Sc Go.Proofs.YtnieeckdldpebaaGreat.Le Go.Proofs.YtnieeckdldpebaaGreat.Pa Go.Proofs.YtnieeckdldpebaaGreat.Tg
set_option linter.unusedVariables false

/-- What comes of a map whose palette's ledger refuses it. -/
def EN (W : World) (b l : Nat) (s : ByteArray) (o f t : Nat) (Y : St) (k a : Int) (e : Ending) (w' : World) : Prop :=
  e = .returned (.tuple #[.pointer none, .agg #[.int .i64 k, .int .i64 2, .int .i64 a]]) ∧ (Led l Y.ls w' ∧ Sr.So b l s o f t w') ∧ Tn W w' [b, l]

set_option maxRecDepth 100000 in
set_option maxHeartbeats 2000000 in
theorem entries_spent (n0 n3 n5 n6 n7 n8 n9 : Int) (cnt x2 : Nat) (mp lf tp : Bool) (b l : Nat) (s : ByteArray) (o f t : Nat) (x : St) (W : World) (h : Sr.So b l s o f t W) (hl : Led l x.ls W) (ok : x.Ok) (c1 : 1 ≤ cnt) (c2 : cnt ≤ 65535)
    (hn : (x.take ((4 * cnt : Nat) : Int)).2 = false) :
    Calls Tryz.prog 99 #[.pointer (some ⟨b, 0, none⟩), .agg #[.int .i64 n0, .bool mp, .int .i64 x2, .int .i64 n3, .int .i64 cnt, .int .i64 n5, .int .i64 n6, .int .i64 n7, .int .i64 n8, .int .i64 n9, .bool lf, .bool tp]] W (EN W b l s o f t ((x.take ((4 * cnt : Nat) : Int)).1) 4 o) := by
  have hblt := h.lt
  have hllt := hl.lt
  have hbl := h.bl
  have HS := Lib.hid h
  have HL := Lib.hid hl
  have KL := Lib.hid (fun u (hu : Sr.So b l s o f t u) => Sr.ledger_calls b l s o f t u hu)
  have KN := Lib.hid (fun u (hu : Led l x.ls u) => new_spent l x cnt u hu ok c1 (by omega) hn)
  have KA := Lib.hid (fun u (hu : Sr.So b l s o f t u) => Sr.at_calls b l s o f t u hu)
  have KF := Lib.hid (fun u => tfault_calls 4 o u)
  obtain ⟨Y, hY⟩ : ∃ Y, (x.take ((4 * cnt : Nat) : Int)).1 = Y := ⟨_, rfl⟩
  rw [hY] at KN ⊢
  clear h hl ok hn hY
  go_enter Tryz.func99, Tryz.ntmps99
  go_wp2_with fail
  have hH : ((W.alloc (.cells #[.int .i64 n0, .bool mp, .int .i64 x2, .int .i64 n3, .int .i64 cnt, .int .i64 n5, .int .i64 n6, .int .i64 n7, .int .i64 n8, .int .i64 n9, .bool lf, .bool tp] 55)).alloc (.cells #[.int .i64 0, .int .i64 0, .int .i64 0] 29)).heap[W.heap.size]? = some (.cells #[.int .i64 n0, .bool mp, .int .i64 x2, .int .i64 n3, .int .i64 cnt, .int .i64 n5, .int .i64 n6, .int .i64 n7, .int .i64 n8, .int .i64 n9, .bool lf, .bool tp] 55 (0, 0)) := blk_al blk_at _
  have hR : ((W.alloc (.cells #[.int .i64 n0, .bool mp, .int .i64 x2, .int .i64 n3, .int .i64 cnt, .int .i64 n5, .int .i64 n6, .int .i64 n7, .int .i64 n8, .int .i64 n9, .bool lf, .bool tp] 55)).alloc (.cells #[.int .i64 0, .int .i64 0, .int .i64 0] 29)).heap[W.heap.size + 1]? = some (.cells #[.int .i64 0, .int .i64 0, .int .i64 0] 29 (0, 0)) := by rw [← size_alloc W (.cells #[.int .i64 n0, .bool mp, .int .i64 x2, .int .i64 n3, .int .i64 cnt, .int .i64 n5, .int .i64 n6, .int .i64 n7, .int .i64 n8, .int .i64 n9, .bool lf, .bool tp] 55)]; exact blk_at
  have hG : W.grownBy ((W.alloc (.cells #[.int .i64 n0, .bool mp, .int .i64 x2, .int .i64 n3, .int .i64 cnt, .int .i64 n5, .int .i64 n6, .int .i64 n7, .int .i64 n8, .int .i64 n9, .bool lf, .bool tp] 55)).alloc (.cells #[.int .i64 0, .int .i64 0, .int .i64 0] 29)) none := gb_trans (World.grownBy_alloc _ _ _) (World.grownBy_alloc _ _ _)
  obtain ⟨hb, hhb⟩ : ∃ r, W.heap.size = r := ⟨_, rfl⟩
  rw [hhb] at hH hR hblt hllt ⊢
  have HHB := Lib.hid hhb
  generalize (W.alloc (.cells #[.int .i64 n0, .bool mp, .int .i64 x2, .int .i64 n3, .int .i64 cnt, .int .i64 n5, .int .i64 n6, .int .i64 n7, .int .i64 n8, .int .i64 n9, .bool lf, .bool tp] 55)).alloc (.cells #[.int .i64 0, .int .i64 0, .int .i64 0] 29) = w0 at hH hR hG ⊢
  have HM := Lib.hid (show MZ hb n0 n3 (cnt : Nat) n5 n6 n7 n8 n9 x2 mp lf tp w0 from ⟨hH, hR⟩)
  have HG := Lib.hid hG
  have HS0 := Lib.hid (HS.out.grown hG (by simp))
  have HL0 := Lib.hid (HL.out.grown hG (by simp))
  have hl0 := blk_lt hH
  have hl1 := blk_lt hR
  clear hH hR hG hhb HS HL
  have h0 : w0.cell? ⟨hb, 0, none⟩ = some (.int .i64 n0) := blk_cell HM.out.h 0
  have h1 : w0.cell? ⟨hb, 1, none⟩ = some (.bool mp) := blk_cell HM.out.h 1
  have h2 : w0.cell? ⟨hb, 2, none⟩ = some (.int .i64 x2) := blk_cell HM.out.h 2
  have h3 : w0.cell? ⟨hb, 3, none⟩ = some (.int .i64 n3) := blk_cell HM.out.h 3
  have h4 : w0.cell? ⟨hb, 4, none⟩ = some (.int .i64 cnt) := blk_cell HM.out.h 4
  have h5 : w0.cell? ⟨hb, 5, none⟩ = some (.int .i64 n5) := blk_cell HM.out.h 5
  have h6 : w0.cell? ⟨hb, 6, none⟩ = some (.int .i64 n6) := blk_cell HM.out.h 6
  have h7 : w0.cell? ⟨hb, 7, none⟩ = some (.int .i64 n7) := blk_cell HM.out.h 7
  have h8 : w0.cell? ⟨hb, 8, none⟩ = some (.int .i64 n8) := blk_cell HM.out.h 8
  have h9 : w0.cell? ⟨hb, 9, none⟩ = some (.int .i64 n9) := blk_cell HM.out.h 9
  have h10 : w0.cell? ⟨hb, 10, none⟩ = some (.bool lf) := blk_cell HM.out.h 10
  have h11 : w0.cell? ⟨hb, 11, none⟩ = some (.bool tp) := blk_cell HM.out.h 11
  go_region_with (first
    | (go_at_call 28; refine (KL.out _ (by first | exact HS0.out | exact so_dr HS0.out)).mono ?_; rintro e w' ⟨rfl, rfl⟩)
    | (go_at_call 124; refine (KN.out _ (by first | exact HL0.out | exact led_dr HL0.out)).mono ?_; rintro e w1 ⟨rfl, hl1', g1⟩))
  all_goals
    have HT1 := Lib.hid (show Tn W w1 [b, l] from by first | exact (Tn.gb HG.out (by simp)).trans (Tn.gb g1 (by simp)) | exact (Tn.dr (Tn.gb HG.out (by simp))).trans (Tn.gb g1 (by simp)))
    have HM1 := Lib.hid (show MZ hb n0 n3 (cnt : Nat) n5 n6 n7 n8 n9 x2 mp lf tp w1 from by first | exact HM.out.turned (Tn.gb g1 (S := [l]) (by simp)) (by simp; omega) (by simp; omega) | exact (show MZ hb n0 n3 (cnt : Nat) n5 n6 n7 n8 n9 x2 mp lf tp w0.drew from ⟨HM.out.h, HM.out.f⟩).turned (Tn.gb g1 (S := [l]) (by simp)) (by simp; omega) (by simp; omega))
    have HS1 := Lib.hid (show Sr.So b l s o f t w1 from by first | exact HS0.out.grown g1 (by simpa using hbl) | exact (so_dr HS0.out).grown g1 (by simpa using hbl))
    have HL1 := Lib.hid hl1'
    clear g1 hl1' HM HG HS0 HL0 hl0 hl1 h0 h1 h2 h3 h4 h5 h6 h7 h8 h9 h10 h11
    have y0 : w1.cell? ⟨hb + 1, 0, none⟩ = some (.int .i64 0) := blk_cell HM1.out.f 0
    have yf0 := blk_free HM1.out.f 0
    have y1 : w1.cell? ⟨hb + 1, 1, none⟩ = some (.int .i64 0) := blk_cell HM1.out.f 1
    have yf1 := blk_free HM1.out.f 1
    have y2 : w1.cell? ⟨hb + 1, 2, none⟩ = some (.int .i64 0) := blk_cell HM1.out.f 2
    have yf2 := blk_free HM1.out.f 2
    have ylf := blk_lt HM1.out.f
    go_wp2_with fail
    refine (KA.out _ HS1.out).mono ?_
    rintro e u1 ⟨rfl, rfl⟩
    go_wp2_with fail
    refine (KF.out _).mono ?_
    rintro e w2 ⟨rfl, g2⟩
    have HM2 := Lib.hid (HM1.out.turned (Tn.gb g2 (S := []) (by simp)) (by simp) (by simp))
    have HT2 := Lib.hid (HT1.out.trans (Tn.gb g2 (by simp)))
    have HL2 := Lib.hid (HL1.out.grown g2 (by simp))
    have HS2 := Lib.hid (HS1.out.grown g2 (by simp))
    clear g2 HL1 HS1 HM1 HT1 y0 y1 y2 yf0 yf1 yf2 ylf
    have q0 : w2.cell? ⟨hb + 1, 0, none⟩ = some (.int .i64 0) := blk_cell HM2.out.f 0
    have qf0 := blk_free HM2.out.f 0
    have q1 : w2.cell? ⟨hb + 1, 1, none⟩ = some (.int .i64 0) := blk_cell HM2.out.f 1
    have qf1 := blk_free HM2.out.f 1
    have q2 : w2.cell? ⟨hb + 1, 2, none⟩ = some (.int .i64 0) := blk_cell HM2.out.f 2
    have qf2 := blk_free HM2.out.f 2
    have hlf := blk_lt HM2.out.f
    clear HM2
    go_wp2
    refine bodyPost_ret (v := .tuple #[.pointer none, .agg #[.int .i64 4, .int .i64 2, .int .i64 o]]) (by simp only [results, Tryz.results99]; go_simp) rfl ⟨rfl, ⟨?_, ?_⟩, ?_⟩
    · repeat' first | with_reducible exact HL2.out | with_reducible refine Led.oth ?_ (by omega) | with_reducible refine led_dr ?_ | with_reducible refine led_al ?_
    · repeat' first | with_reducible exact HS2.out | with_reducible refine so_oth ?_ (by omega) | with_reducible refine so_dr ?_ | with_reducible refine so_al ?_
    · have h1 := HHB.out
      repeat' first | with_reducible exact HT2.out | with_reducible refine tn_own1 ?_ (by omega) | with_reducible refine Tn.dr ?_ | with_reducible refine Tn.al ?_


set_option maxRecDepth 100000 in
set_option maxHeartbeats 2000000 in
theorem map_refused (n3 n4 n5 n6 n7 n8 n9 : Int) (nm x2 : Nat) (mp lf tp : Bool) (b l : Nat) (s : ByteArray) (p f t : Nat) (x : St) (W : World) (h : Sr.So b l s p f t W) (hl : Led l x.ls W) (ok : x.Ok) (ht : x2 < 256) (Y : St) (k a : Int) (rd : Sr.rdB x p t nm = true) (hp : pln x2 = 1) (KN0 : ∀ u, Sr.So b l s (p + nm) f t u → Led l (x.work 1).1.ls u → Calls Tryz.prog 99 #[.pointer (some ⟨b, 0, none⟩), .agg #[.int .i64 nm, .bool mp, .int .i64 x2, .int .i64 n3, .int .i64 n4, .int .i64 n5, .int .i64 n6, .int .i64 n7, .int .i64 n8, .int .i64 n9, .bool lf, .bool tp]] u (EN u b l s (p + nm) f t Y k a)) :
    Calls Tryz.prog 55 #[.pointer (some ⟨b, 0, none⟩), .agg #[.int .i64 nm, .bool mp, .int .i64 x2, .int .i64 n3, .int .i64 n4, .int .i64 n5, .int .i64 n6, .int .i64 n7, .int .i64 n8, .int .i64 n9, .bool lf, .bool tp]] W (EN W b l s (p + nm) f t Y k a) := by
  have hblt := h.lt
  have hllt := hl.lt
  have hbl := h.bl
  have HS := Lib.hid h
  have HL := Lib.hid hl
  have KS := Lib.hid (fun u (hu : Sr.So b l s p f t u) (hlu : Led l x.ls u) => Sr.skip_yes b l s p f t nm x u hu hlu ok rd)
  have KP0 := fun u => tplain_calls x2 ht u
  obtain ⟨y, hy⟩ : ∃ y : Int, (pln x2 : Int) = y := ⟨_, rfl⟩
  simp only [hy] at KP0
  have hy1 : (y == 1) = true := by rw [← hy, hp]; rfl
  have KP := Lib.hid KP0
  have KN := Lib.hid KN0
  clear KP0 KN0 h hl ok rd hy hp
  go_enter Tryz.func55, Tryz.ntmps55
  go_wp2_with fail
  have hH : ((W.alloc (.cells #[.int .i64 nm, .bool mp, .int .i64 x2, .int .i64 n3, .int .i64 n4, .int .i64 n5, .int .i64 n6, .int .i64 n7, .int .i64 n8, .int .i64 n9, .bool lf, .bool tp] 55)).alloc (.cells #[.int .i64 0, .int .i64 0, .int .i64 0] 29)).heap[W.heap.size]? = some (.cells #[.int .i64 nm, .bool mp, .int .i64 x2, .int .i64 n3, .int .i64 n4, .int .i64 n5, .int .i64 n6, .int .i64 n7, .int .i64 n8, .int .i64 n9, .bool lf, .bool tp] 55 (0, 0)) := blk_al blk_at _
  have hR : ((W.alloc (.cells #[.int .i64 nm, .bool mp, .int .i64 x2, .int .i64 n3, .int .i64 n4, .int .i64 n5, .int .i64 n6, .int .i64 n7, .int .i64 n8, .int .i64 n9, .bool lf, .bool tp] 55)).alloc (.cells #[.int .i64 0, .int .i64 0, .int .i64 0] 29)).heap[W.heap.size + 1]? = some (.cells #[.int .i64 0, .int .i64 0, .int .i64 0] 29 (0, 0)) := by rw [← size_alloc W (.cells #[.int .i64 nm, .bool mp, .int .i64 x2, .int .i64 n3, .int .i64 n4, .int .i64 n5, .int .i64 n6, .int .i64 n7, .int .i64 n8, .int .i64 n9, .bool lf, .bool tp] 55)]; exact blk_at
  have hG : W.grownBy ((W.alloc (.cells #[.int .i64 nm, .bool mp, .int .i64 x2, .int .i64 n3, .int .i64 n4, .int .i64 n5, .int .i64 n6, .int .i64 n7, .int .i64 n8, .int .i64 n9, .bool lf, .bool tp] 55)).alloc (.cells #[.int .i64 0, .int .i64 0, .int .i64 0] 29)) none := gb_trans (World.grownBy_alloc _ _ _) (World.grownBy_alloc _ _ _)
  obtain ⟨hb, hhb⟩ : ∃ r, W.heap.size = r := ⟨_, rfl⟩
  rw [hhb] at hH hR hblt hllt ⊢
  have HHB := Lib.hid hhb
  generalize (W.alloc (.cells #[.int .i64 nm, .bool mp, .int .i64 x2, .int .i64 n3, .int .i64 n4, .int .i64 n5, .int .i64 n6, .int .i64 n7, .int .i64 n8, .int .i64 n9, .bool lf, .bool tp] 55)).alloc (.cells #[.int .i64 0, .int .i64 0, .int .i64 0] 29) = w0 at hH hR hG ⊢
  have HM := Lib.hid (show MZ hb (nm : Nat) n3 n4 n5 n6 n7 n8 n9 x2 mp lf tp w0 from ⟨hH, hR⟩)
  have HG := Lib.hid hG
  have HS0 := Lib.hid (HS.out.grown hG (by simp))
  have HL0 := Lib.hid (HL.out.grown hG (by simp))
  have hl0 := blk_lt hH
  have hl1 := blk_lt hR
  clear hH hR hG hhb HS HL
  have HM0 := HM
  have HT0 := Lib.hid (show Tn W w0 [b, l] from Tn.gb HG.out (by simp))
  clear HM HG hl0 hl1
  have h0 : w0.cell? ⟨hb, 0, none⟩ = some (.int .i64 nm) := blk_cell HM0.out.h 0
  have h1 : w0.cell? ⟨hb, 1, none⟩ = some (.bool mp) := blk_cell HM0.out.h 1
  have h2 : w0.cell? ⟨hb, 2, none⟩ = some (.int .i64 x2) := blk_cell HM0.out.h 2
  have h3 : w0.cell? ⟨hb, 3, none⟩ = some (.int .i64 n3) := blk_cell HM0.out.h 3
  have h4 : w0.cell? ⟨hb, 4, none⟩ = some (.int .i64 n4) := blk_cell HM0.out.h 4
  have h5 : w0.cell? ⟨hb, 5, none⟩ = some (.int .i64 n5) := blk_cell HM0.out.h 5
  have h6 : w0.cell? ⟨hb, 6, none⟩ = some (.int .i64 n6) := blk_cell HM0.out.h 6
  have h7 : w0.cell? ⟨hb, 7, none⟩ = some (.int .i64 n7) := blk_cell HM0.out.h 7
  have h8 : w0.cell? ⟨hb, 8, none⟩ = some (.int .i64 n8) := blk_cell HM0.out.h 8
  have h9 : w0.cell? ⟨hb, 9, none⟩ = some (.int .i64 n9) := blk_cell HM0.out.h 9
  have h10 : w0.cell? ⟨hb, 10, none⟩ = some (.bool lf) := blk_cell HM0.out.h 10
  have h11 : w0.cell? ⟨hb, 11, none⟩ = some (.bool tp) := blk_cell HM0.out.h 11
  have hl0 := blk_lt HM0.out.h
  refine (KS.out _ HS0.out HL0.out).mono ?_
  rintro e w1 ⟨rfl, ⟨S1, L1⟩, t1⟩
  have HS1 := Lib.hid S1
  have HL1 := Lib.hid L1
  have HM1 := Lib.hid (HM0.out.turned t1 (by simp; omega) (by simp; omega))
  have HT1 := Lib.hid (HT0.out.trans t1)
  clear t1 S1 L1 HL0 HS0 HM0 HT0
  clear hl0 h0 h1 h2 h3 h4 h5 h6 h7 h8 h9 h10 h11
  have h0 : w1.cell? ⟨hb, 0, none⟩ = some (.int .i64 nm) := blk_cell HM1.out.h 0
  have h1 : w1.cell? ⟨hb, 1, none⟩ = some (.bool mp) := blk_cell HM1.out.h 1
  have h2 : w1.cell? ⟨hb, 2, none⟩ = some (.int .i64 x2) := blk_cell HM1.out.h 2
  have h3 : w1.cell? ⟨hb, 3, none⟩ = some (.int .i64 n3) := blk_cell HM1.out.h 3
  have h4 : w1.cell? ⟨hb, 4, none⟩ = some (.int .i64 n4) := blk_cell HM1.out.h 4
  have h5 : w1.cell? ⟨hb, 5, none⟩ = some (.int .i64 n5) := blk_cell HM1.out.h 5
  have h6 : w1.cell? ⟨hb, 6, none⟩ = some (.int .i64 n6) := blk_cell HM1.out.h 6
  have h7 : w1.cell? ⟨hb, 7, none⟩ = some (.int .i64 n7) := blk_cell HM1.out.h 7
  have h8 : w1.cell? ⟨hb, 8, none⟩ = some (.int .i64 n8) := blk_cell HM1.out.h 8
  have h9 : w1.cell? ⟨hb, 9, none⟩ = some (.int .i64 n9) := blk_cell HM1.out.h 9
  have h10 : w1.cell? ⟨hb, 10, none⟩ = some (.bool lf) := blk_cell HM1.out.h 10
  have h11 : w1.cell? ⟨hb, 11, none⟩ = some (.bool tp) := blk_cell HM1.out.h 11
  have hl0 := blk_lt HM1.out.h
  go_wp2_with fail
  refine (KP.out _).mono ?_
  rintro e w' ⟨rfl, rfl⟩
  have y0 : w1.cell? ⟨hb + 1, 0, none⟩ = some (.int .i64 0) := blk_cell HM1.out.f 0
  have yf0 := blk_free HM1.out.f 0
  have y1 : w1.cell? ⟨hb + 1, 1, none⟩ = some (.int .i64 0) := blk_cell HM1.out.f 1
  have yf1 := blk_free HM1.out.f 1
  have y2 : w1.cell? ⟨hb + 1, 2, none⟩ = some (.int .i64 0) := blk_cell HM1.out.f 2
  have yf2 := blk_free HM1.out.f 2
  have ylf := blk_lt HM1.out.f
  have hz1 := HM1.out.h
  go_wp2_with fail
  refine (KN.out _ HS1.out HL1.out).mono ?_
  rintro e w2 ⟨rfl, ⟨L2, S2⟩, t2⟩
  have HM2 := Lib.hid (HM1.out.turned t2 (by simp; omega) (by simp; omega))
  have HT2 := Lib.hid (HT1.out.trans t2)
  have hw1 : hb + 1 < w1.heap.size := ylf
  have HL2 := Lib.hid L2
  have HS2 := Lib.hid S2
  clear t2 L2 S2 HL1 HS1 HM1 HT1 hl0 hz1 h0 h1 h2 h3 h4 h5 h6 h7 h8 h9 h10 h11 y0 y1 y2 yf0 yf1 yf2 ylf
  have q0 : w2.cell? ⟨hb + 1, 0, none⟩ = some (.int .i64 0) := blk_cell HM2.out.f 0
  have qf0 := blk_free HM2.out.f 0
  have q1 : w2.cell? ⟨hb + 1, 1, none⟩ = some (.int .i64 0) := blk_cell HM2.out.f 1
  have qf1 := blk_free HM2.out.f 1
  have q2 : w2.cell? ⟨hb + 1, 2, none⟩ = some (.int .i64 0) := blk_cell HM2.out.f 2
  have qf2 := blk_free HM2.out.f 2
  have hlf := blk_lt HM2.out.f
  clear HM2
  go_wp2
  refine bodyPost_ret (v := .tuple #[.pointer none, .agg #[.int .i64 k, .int .i64 2, .int .i64 a]]) (by simp only [results, Tryz.results55]; go_simp) rfl ⟨rfl, ⟨?_, ?_⟩, ?_⟩
  · repeat' first | with_reducible exact HL2.out | with_reducible refine Led.oth ?_ (by omega) | with_reducible refine led_dr ?_ | with_reducible refine led_al ?_
  · repeat' first | with_reducible exact HS2.out | with_reducible refine so_oth ?_ (by omega) | with_reducible refine so_dr ?_ | with_reducible refine so_al ?_
  · have h1 := HHB.out
    repeat' first | with_reducible exact HT2.out | with_reducible refine tn_own1 ?_ (by omega) | with_reducible refine Tn.dr ?_ | with_reducible refine Tn.al ?_


end Go.Proofs.YtnieeckdldpebaaGreat.Tp
