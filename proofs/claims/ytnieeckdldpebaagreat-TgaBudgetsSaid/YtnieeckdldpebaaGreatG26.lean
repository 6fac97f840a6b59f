/- Texts of one kind, one behind the other: Tp5, Tp3. -/
import Derived.Test.YtnieeckdldpebaaGreatG21
import Derived.Test.YtnieeckdldpebaaGreatG25
/- Layer 17: Pixel, walked (written by wip/gen/tp4.py). -/
namespace Go.Proofs.YtnieeckdldpebaaGreat.Tp
open Go.ChangeShapes Go.WideShapes Go.ChangeAt Go.RowKit
open Go.Proofs.YtnieeckdldpebaaGreat.Sc Go.Proofs.YtnieeckdldpebaaGreat.Le Go.Proofs.YtnieeckdldpebaaGreat.Pa Go.Proofs.YtnieeckdldpebaaGreat.Tg
set_option linter.unusedVariables false

/-- The blocks of a call of Pixel: its head, its results, not written yet. -/
structure ZP (hb : Nat) (n0 n3 n4 n5 n6 n7 n8 n9 : Int) (x2 : Nat) (mp lf tp : Bool) (w : World) : Prop where
  h : w.heap[hb]? = some (.cells #[.int .i64 n0, .bool mp, .int .i64 x2, .int .i64 n3, .int .i64 n4, .int .i64 n5, .int .i64 n6, .int .i64 n7, .int .i64 n8, .int .i64 n9, .bool lf, .bool tp] 55 (0, 0))
  c : w.heap[hb + 1]? = some (.cells #[.int .u8 0, .int .u8 0, .int .u8 0, .int .u8 0] 135 (0, 0))
  f : w.heap[hb + 2]? = some (.cells #[.int .i64 0, .int .i64 0, .int .i64 0] 29 (0, 0))
theorem ZP.turned {hb : Nat} {n0 n3 n4 n5 n6 n7 n8 n9 : Int} {x2 : Nat} {mp lf tp : Bool} {w w' : World} {S : List Nat} (h : ZP hb n0 n3 n4 n5 n6 n7 n8 n9 x2 mp lf tp w) (k : Tn w w' S) (h0 : hb ∉ S) (h1 : hb + 1 ∉ S) (h2 : hb + 2 ∉ S) : ZP hb n0 n3 n4 n5 n6 n7 n8 n9 x2 mp lf tp w' :=
  ⟨(k.block _ (blk_lt h.h) h0).trans h.h, (k.block _ (blk_lt h.c) h1).trans h.c, (k.block _ (blk_lt h.f) h2).trans h.f⟩

set_option maxRecDepth 100000 in
set_option maxHeartbeats 2000000 in
theorem tPixel_ok (n0 n3 n4 n5 n6 n7 n8 n9 : Int) (x2 : Nat) (mp lf tp : Bool) (b l : Nat) (s z : ByteArray) (p f t sz : Nat) (x : St) (pp : Value) (W : World) (P : World → Prop) (h : Sr.So b l s p f t W) (hl : Led l x.ls W) (ok : x.Ok) (c0 c1 c2 c3 : Int) (rd : Sr.rdB x p t sz = true) (hz : s.extract p (p + sz) = z)
    (KS0 : ∀ u, Calls Tryz.prog 153 #[.agg #[.int .i64 n0, .bool mp, .int .i64 x2, .int .i64 n3, .int .i64 n4, .int .i64 n5, .int .i64 n6, .int .i64 n7, .int .i64 n8, .int .i64 n9, .bool lf, .bool tp]] u fun e w' => e = .returned (.int .i64 sz) ∧ u.grownBy w' none) (hP : P W) (hPt : ∀ u u', P u → Tn u u' [b, l] → P u') (KP0 : ∀ u, P u → Calls Tryz.prog 154 #[.string z, .agg #[.int .i64 n0, .bool mp, .int .i64 x2, .int .i64 n3, .int .i64 n4, .int .i64 n5, .int .i64 n6, .int .i64 n7, .int .i64 n8, .int .i64 n9, .bool lf, .bool tp], pp] u fun e w' => e = .returned (.tuple #[.agg #[.int .u8 c0, .int .u8 c1, .int .u8 c2, .int .u8 c3], .bool true]) ∧ u.grownBy w' none) :
    Calls Tryz.prog 132 #[.pointer (some ⟨b, 0, none⟩), .agg #[.int .i64 n0, .bool mp, .int .i64 x2, .int .i64 n3, .int .i64 n4, .int .i64 n5, .int .i64 n6, .int .i64 n7, .int .i64 n8, .int .i64 n9, .bool lf, .bool tp], pp] W
      fun e w' => e = .returned (.tuple #[.agg #[.int .u8 c0, .int .u8 c1, .int .u8 c2, .int .u8 c3], .agg #[.int .i64 0, .int .i64 0, .int .i64 0]]) ∧ (Sr.So b l s (p + sz) f t w' ∧ Led l (x.work 1).1.ls w' ∧ P w') ∧ Tn W w' [b, l] := by
  have hblt := h.lt
  have hllt := hl.lt
  have HS := Lib.hid h
  have HL := Lib.hid hl
  have HP := Lib.hid hP
  have HPT := Lib.hid hPt
  have KS := Lib.hid KS0
  have KA := Lib.hid (fun u (hu : Sr.So b l s p f t u) => Sr.at_calls b l s p f t u hu)
  have KT0 := fun u (hu : Sr.So b l s p f t u) (hlu : Led l x.ls u) => Sr.take_yes b l s p f t sz x u hu hlu ok rd
  rw [hz] at KT0
  have KT := Lib.hid KT0
  have KP := Lib.hid KP0
  clear KT0 KP0 KS0 hP hPt h hl ok rd hz
  go_enter Tryz.func132, Tryz.ntmps132
  go_wp2_with fail
  obtain ⟨hb, hhb⟩ : ∃ r, W.heap.size = r := ⟨_, rfl⟩
  have hZ : ZP hb n0 n3 n4 n5 n6 n7 n8 n9 x2 mp lf tp (((W.alloc (.cells #[.int .i64 n0, .bool mp, .int .i64 x2, .int .i64 n3, .int .i64 n4, .int .i64 n5, .int .i64 n6, .int .i64 n7, .int .i64 n8, .int .i64 n9, .bool lf, .bool tp] 55)).alloc (.cells #[.int .u8 0, .int .u8 0, .int .u8 0, .int .u8 0] 135)).alloc (.cells #[.int .i64 0, .int .i64 0, .int .i64 0] 29)) := by
    rw [← hhb]
    refine ⟨blk_al (blk_al blk_at _) _, ?_, ?_⟩
    · rw [← size_alloc W (.cells #[.int .i64 n0, .bool mp, .int .i64 x2, .int .i64 n3, .int .i64 n4, .int .i64 n5, .int .i64 n6, .int .i64 n7, .int .i64 n8, .int .i64 n9, .bool lf, .bool tp] 55)]; exact blk_al blk_at _
    · rw [show W.heap.size + 2 = ((W.alloc (.cells #[.int .i64 n0, .bool mp, .int .i64 x2, .int .i64 n3, .int .i64 n4, .int .i64 n5, .int .i64 n6, .int .i64 n7, .int .i64 n8, .int .i64 n9, .bool lf, .bool tp] 55)).alloc (.cells #[.int .u8 0, .int .u8 0, .int .u8 0, .int .u8 0] 135)).heap.size from by rw [size_alloc, size_alloc]]; exact blk_at
  have hG : W.grownBy (((W.alloc (.cells #[.int .i64 n0, .bool mp, .int .i64 x2, .int .i64 n3, .int .i64 n4, .int .i64 n5, .int .i64 n6, .int .i64 n7, .int .i64 n8, .int .i64 n9, .bool lf, .bool tp] 55)).alloc (.cells #[.int .u8 0, .int .u8 0, .int .u8 0, .int .u8 0] 135)).alloc (.cells #[.int .i64 0, .int .i64 0, .int .i64 0] 29)) none := gb_trans (gb_trans (World.grownBy_alloc _ _ _) (World.grownBy_alloc _ _ _)) (World.grownBy_alloc _ _ _)
  rw [hhb] at hblt hllt ⊢
  have e1 : ((W.alloc (.cells #[.int .i64 n0, .bool mp, .int .i64 x2, .int .i64 n3, .int .i64 n4, .int .i64 n5, .int .i64 n6, .int .i64 n7, .int .i64 n8, .int .i64 n9, .bool lf, .bool tp] 55)).alloc (.cells #[.int .u8 0, .int .u8 0, .int .u8 0, .int .u8 0] 135)).heap.size = hb + 2 := by rw [size_alloc, size_alloc, hhb]
  have HHB := Lib.hid hhb
  generalize (((W.alloc (.cells #[.int .i64 n0, .bool mp, .int .i64 x2, .int .i64 n3, .int .i64 n4, .int .i64 n5, .int .i64 n6, .int .i64 n7, .int .i64 n8, .int .i64 n9, .bool lf, .bool tp] 55)).alloc (.cells #[.int .u8 0, .int .u8 0, .int .u8 0, .int .u8 0] 135)).alloc (.cells #[.int .i64 0, .int .i64 0, .int .i64 0] 29)) = w0 at hZ hG ⊢
  have HZ0 := Lib.hid hZ
  have HG0 := Lib.hid hG
  have HS0 := Lib.hid (HS.out.grown hG (by simp))
  have HL0 := Lib.hid (HL.out.grown hG (by simp))
  clear hZ hG hhb HS HL e1
  refine (KA.out _ HS0.out).mono ?_
  rintro e w' ⟨rfl, rfl⟩
  have h0 : w0.cell? ⟨hb, 0, none⟩ = some (.int .i64 n0) := blk_cell HZ0.out.h 0
  have h1 : w0.cell? ⟨hb, 1, none⟩ = some (.bool mp) := blk_cell HZ0.out.h 1
  have h2 : w0.cell? ⟨hb, 2, none⟩ = some (.int .i64 x2) := blk_cell HZ0.out.h 2
  have h3 : w0.cell? ⟨hb, 3, none⟩ = some (.int .i64 n3) := blk_cell HZ0.out.h 3
  have h4 : w0.cell? ⟨hb, 4, none⟩ = some (.int .i64 n4) := blk_cell HZ0.out.h 4
  have h5 : w0.cell? ⟨hb, 5, none⟩ = some (.int .i64 n5) := blk_cell HZ0.out.h 5
  have h6 : w0.cell? ⟨hb, 6, none⟩ = some (.int .i64 n6) := blk_cell HZ0.out.h 6
  have h7 : w0.cell? ⟨hb, 7, none⟩ = some (.int .i64 n7) := blk_cell HZ0.out.h 7
  have h8 : w0.cell? ⟨hb, 8, none⟩ = some (.int .i64 n8) := blk_cell HZ0.out.h 8
  have h9 : w0.cell? ⟨hb, 9, none⟩ = some (.int .i64 n9) := blk_cell HZ0.out.h 9
  have h10 : w0.cell? ⟨hb, 10, none⟩ = some (.bool lf) := blk_cell HZ0.out.h 10
  have h11 : w0.cell? ⟨hb, 11, none⟩ = some (.bool tp) := blk_cell HZ0.out.h 11
  have hl0 := blk_lt HZ0.out.h
  go_wp2_with fail
  refine (KS.out _).mono ?_
  rintro e w1 ⟨rfl, g1⟩
  have HZ1 := Lib.hid (HZ0.out.turned (Tn.gb g1 (S := []) (by simp)) (by simp) (by simp) (by simp))
  have HS1 := Lib.hid (HS0.out.grown g1 (by simp))
  have HL1 := Lib.hid (HL0.out.grown g1 (by simp))
  have HG1 := Lib.hid (gb_trans HG0.out g1)
  clear g1 HZ0 HS0 HL0 HG0 hl0 h0 h1 h2 h3 h4 h5 h6 h7 h8 h9 h10 h11
  go_wp2_with fail
  refine (KT.out _ HS1.out HL1.out).mono ?_
  rintro e w2 ⟨rfl, ⟨S2, L2⟩, t2⟩
  have HS2 := Lib.hid S2
  have HL2 := Lib.hid L2
  have HZ2 := Lib.hid (HZ1.out.turned t2 (by simp; omega) (by simp; omega) (by simp; omega))
  have HT2 := Lib.hid ((Tn.gb HG1.out (S := [b, l]) (by simp)).trans t2)
  clear S2 L2 t2 HS1 HL1 HZ1 HG1
  have h0 : w2.cell? ⟨hb, 0, none⟩ = some (.int .i64 n0) := blk_cell HZ2.out.h 0
  have h1 : w2.cell? ⟨hb, 1, none⟩ = some (.bool mp) := blk_cell HZ2.out.h 1
  have h2 : w2.cell? ⟨hb, 2, none⟩ = some (.int .i64 x2) := blk_cell HZ2.out.h 2
  have h3 : w2.cell? ⟨hb, 3, none⟩ = some (.int .i64 n3) := blk_cell HZ2.out.h 3
  have h4 : w2.cell? ⟨hb, 4, none⟩ = some (.int .i64 n4) := blk_cell HZ2.out.h 4
  have h5 : w2.cell? ⟨hb, 5, none⟩ = some (.int .i64 n5) := blk_cell HZ2.out.h 5
  have h6 : w2.cell? ⟨hb, 6, none⟩ = some (.int .i64 n6) := blk_cell HZ2.out.h 6
  have h7 : w2.cell? ⟨hb, 7, none⟩ = some (.int .i64 n7) := blk_cell HZ2.out.h 7
  have h8 : w2.cell? ⟨hb, 8, none⟩ = some (.int .i64 n8) := blk_cell HZ2.out.h 8
  have h9 : w2.cell? ⟨hb, 9, none⟩ = some (.int .i64 n9) := blk_cell HZ2.out.h 9
  have h10 : w2.cell? ⟨hb, 10, none⟩ = some (.bool lf) := blk_cell HZ2.out.h 10
  have h11 : w2.cell? ⟨hb, 11, none⟩ = some (.bool tp) := blk_cell HZ2.out.h 11
  have hl2 := blk_lt HZ2.out.h
  go_wp2_with fail
  refine (KP.out _ (HPT.out _ _ HP.out HT2.out)).mono ?_
  rintro e w3 ⟨rfl, g3⟩
  have HS3 := Lib.hid (HS2.out.grown g3 (by simp))
  have HL3 := Lib.hid (HL2.out.grown g3 (by simp))
  have HT3 := Lib.hid (HT2.out.trans (Tn.gb g3 (S := [b, l]) (by simp)))
  have hZ3 := HZ2.out.turned (Tn.gb g3 (S := []) (by simp)) (by simp) (by simp) (by simp)
  clear g3 HS2 HL2 HT2 HZ2 hl2 KP KT KS KA h0 h1 h2 h3 h4 h5 h6 h7 h8 h9 h10 h11
  have r0 : w3.cell? ⟨hb + 1, 0, none⟩ = some (.int .u8 0) := blk_cell hZ3.c 0
  have rf0 := blk_free hZ3.c 0
  have r1 : w3.cell? ⟨hb + 1, 1, none⟩ = some (.int .u8 0) := blk_cell hZ3.c 1
  have rf1 := blk_free hZ3.c 1
  have r2 : w3.cell? ⟨hb + 1, 2, none⟩ = some (.int .u8 0) := blk_cell hZ3.c 2
  have rf2 := blk_free hZ3.c 2
  have r3 : w3.cell? ⟨hb + 1, 3, none⟩ = some (.int .u8 0) := blk_cell hZ3.c 3
  have rf3 := blk_free hZ3.c 3
  have q0 : w3.cell? ⟨hb + 2, 0, none⟩ = some (.int .i64 0) := blk_cell hZ3.f 0
  have qf0 := blk_free hZ3.f 0
  have q1 : w3.cell? ⟨hb + 2, 1, none⟩ = some (.int .i64 0) := blk_cell hZ3.f 1
  have qf1 := blk_free hZ3.f 1
  have q2 : w3.cell? ⟨hb + 2, 2, none⟩ = some (.int .i64 0) := blk_cell hZ3.f 2
  have qf2 := blk_free hZ3.f 2
  have m1 := blk_lt hZ3.c
  have m2 := blk_lt hZ3.f
  have n1 : hb + 1 ≠ hb + 2 := by omega
  have n2 : hb + 2 ≠ hb + 1 := by omega
  clear hZ3
  try go_wp2_with fail
  try (refine (KF.out _).mono ?_; rintro e w' ⟨rfl, g5⟩)
  go_wp2
  refine bodyPost_ret (v := .tuple #[.agg #[.int .u8 c0, .int .u8 c1, .int .u8 c2, .int .u8 c3], .agg #[.int .i64 0, .int .i64 0, .int .i64 0]]) (by simp only [results, Tryz.results132]; go_simp) rfl ?_
  have h1 := HHB.out
  refine ⟨rfl, ⟨?_, ?_, HPT.out _ _ HP.out ?_⟩, ?_⟩
  · repeat' first | with_reducible exact HS3.out | with_reducible refine so_oth ?_ (by omega) | with_reducible refine so_dr ?_ | with_reducible refine so_al ?_
  · repeat' first | with_reducible exact HL3.out | with_reducible refine Led.oth ?_ (by omega) | with_reducible refine led_dr ?_ | with_reducible refine led_al ?_
  · repeat' first | with_reducible exact HT3.out | with_reducible refine tn_own1 ?_ (by omega) | with_reducible refine Tn.dr ?_ | with_reducible refine Tn.al ?_
  · repeat' first | with_reducible exact HT3.out | with_reducible refine tn_own1 ?_ (by omega) | with_reducible refine Tn.dr ?_ | with_reducible refine Tn.al ?_

theorem tfault_calls (k a : Int) (W : World) : Calls Tryz.prog 125 #[.int .i64 k, .int .i64 a] W fun e w' => e = .returned (.agg #[.int .i64 k, .int .i64 2, .int .i64 a]) ∧ W.grownBy w' none := by
  go_enter Tryz.func125, Tryz.ntmps125
  go_wp2
  refine bodyPost_ret (v := .agg #[.int .i64 k, .int .i64 2, .int .i64 a]) (by simp only [results, Tryz.results125]; go_simp) rfl ⟨rfl, World.grownBy_alloc _ _ _⟩

set_option maxRecDepth 100000 in
set_option maxHeartbeats 2000000 in
theorem tPixel_bad (n0 n3 n4 n5 n6 n7 n8 n9 : Int) (x2 : Nat) (mp lf tp : Bool) (b l : Nat) (s z : ByteArray) (p f t sz : Nat) (x : St) (pp : Value) (W : World) (P : World → Prop) (h : Sr.So b l s p f t W) (hl : Led l x.ls W) (ok : x.Ok) (c0 c1 c2 c3 : Int) (rd : Sr.rdB x p t sz = true) (hz : s.extract p (p + sz) = z)
    (KS0 : ∀ u, Calls Tryz.prog 153 #[.agg #[.int .i64 n0, .bool mp, .int .i64 x2, .int .i64 n3, .int .i64 n4, .int .i64 n5, .int .i64 n6, .int .i64 n7, .int .i64 n8, .int .i64 n9, .bool lf, .bool tp]] u fun e w' => e = .returned (.int .i64 sz) ∧ u.grownBy w' none) (hP : P W) (hPt : ∀ u u', P u → Tn u u' [b, l] → P u') (KP0 : ∀ u, P u → Calls Tryz.prog 154 #[.string z, .agg #[.int .i64 n0, .bool mp, .int .i64 x2, .int .i64 n3, .int .i64 n4, .int .i64 n5, .int .i64 n6, .int .i64 n7, .int .i64 n8, .int .i64 n9, .bool lf, .bool tp], pp] u fun e w' => e = .returned (.tuple #[.agg #[.int .u8 c0, .int .u8 c1, .int .u8 c2, .int .u8 c3], .bool false]) ∧ u.grownBy w' none) :
    Calls Tryz.prog 132 #[.pointer (some ⟨b, 0, none⟩), .agg #[.int .i64 n0, .bool mp, .int .i64 x2, .int .i64 n3, .int .i64 n4, .int .i64 n5, .int .i64 n6, .int .i64 n7, .int .i64 n8, .int .i64 n9, .bool lf, .bool tp], pp] W
      fun e w' => e = .returned (.tuple #[.agg #[.int .u8 0, .int .u8 0, .int .u8 0, .int .u8 0], .agg #[.int .i64 2, .int .i64 2, .int .i64 p]]) ∧ (Sr.So b l s (p + sz) f t w' ∧ Led l (x.work 1).1.ls w' ∧ P w') ∧ Tn W w' [b, l] := by
  have hblt := h.lt
  have hllt := hl.lt
  have HS := Lib.hid h
  have HL := Lib.hid hl
  have HP := Lib.hid hP
  have HPT := Lib.hid hPt
  have KS := Lib.hid KS0
  have KA := Lib.hid (fun u (hu : Sr.So b l s p f t u) => Sr.at_calls b l s p f t u hu)
  have KT0 := fun u (hu : Sr.So b l s p f t u) (hlu : Led l x.ls u) => Sr.take_yes b l s p f t sz x u hu hlu ok rd
  rw [hz] at KT0
  have KT := Lib.hid KT0
  have KP := Lib.hid KP0
  have KF := Lib.hid (fun u => tfault_calls 2 p u)
  clear KT0 KP0 KS0 hP hPt h hl ok rd hz
  go_enter Tryz.func132, Tryz.ntmps132
  go_wp2_with fail
  obtain ⟨hb, hhb⟩ : ∃ r, W.heap.size = r := ⟨_, rfl⟩
  have hZ : ZP hb n0 n3 n4 n5 n6 n7 n8 n9 x2 mp lf tp (((W.alloc (.cells #[.int .i64 n0, .bool mp, .int .i64 x2, .int .i64 n3, .int .i64 n4, .int .i64 n5, .int .i64 n6, .int .i64 n7, .int .i64 n8, .int .i64 n9, .bool lf, .bool tp] 55)).alloc (.cells #[.int .u8 0, .int .u8 0, .int .u8 0, .int .u8 0] 135)).alloc (.cells #[.int .i64 0, .int .i64 0, .int .i64 0] 29)) := by
    rw [← hhb]
    refine ⟨blk_al (blk_al blk_at _) _, ?_, ?_⟩
    · rw [← size_alloc W (.cells #[.int .i64 n0, .bool mp, .int .i64 x2, .int .i64 n3, .int .i64 n4, .int .i64 n5, .int .i64 n6, .int .i64 n7, .int .i64 n8, .int .i64 n9, .bool lf, .bool tp] 55)]; exact blk_al blk_at _
    · rw [show W.heap.size + 2 = ((W.alloc (.cells #[.int .i64 n0, .bool mp, .int .i64 x2, .int .i64 n3, .int .i64 n4, .int .i64 n5, .int .i64 n6, .int .i64 n7, .int .i64 n8, .int .i64 n9, .bool lf, .bool tp] 55)).alloc (.cells #[.int .u8 0, .int .u8 0, .int .u8 0, .int .u8 0] 135)).heap.size from by rw [size_alloc, size_alloc]]; exact blk_at
  have hG : W.grownBy (((W.alloc (.cells #[.int .i64 n0, .bool mp, .int .i64 x2, .int .i64 n3, .int .i64 n4, .int .i64 n5, .int .i64 n6, .int .i64 n7, .int .i64 n8, .int .i64 n9, .bool lf, .bool tp] 55)).alloc (.cells #[.int .u8 0, .int .u8 0, .int .u8 0, .int .u8 0] 135)).alloc (.cells #[.int .i64 0, .int .i64 0, .int .i64 0] 29)) none := gb_trans (gb_trans (World.grownBy_alloc _ _ _) (World.grownBy_alloc _ _ _)) (World.grownBy_alloc _ _ _)
  rw [hhb] at hblt hllt ⊢
  have e1 : ((W.alloc (.cells #[.int .i64 n0, .bool mp, .int .i64 x2, .int .i64 n3, .int .i64 n4, .int .i64 n5, .int .i64 n6, .int .i64 n7, .int .i64 n8, .int .i64 n9, .bool lf, .bool tp] 55)).alloc (.cells #[.int .u8 0, .int .u8 0, .int .u8 0, .int .u8 0] 135)).heap.size = hb + 2 := by rw [size_alloc, size_alloc, hhb]
  have HHB := Lib.hid hhb
  generalize (((W.alloc (.cells #[.int .i64 n0, .bool mp, .int .i64 x2, .int .i64 n3, .int .i64 n4, .int .i64 n5, .int .i64 n6, .int .i64 n7, .int .i64 n8, .int .i64 n9, .bool lf, .bool tp] 55)).alloc (.cells #[.int .u8 0, .int .u8 0, .int .u8 0, .int .u8 0] 135)).alloc (.cells #[.int .i64 0, .int .i64 0, .int .i64 0] 29)) = w0 at hZ hG ⊢
  have HZ0 := Lib.hid hZ
  have HG0 := Lib.hid hG
  have HS0 := Lib.hid (HS.out.grown hG (by simp))
  have HL0 := Lib.hid (HL.out.grown hG (by simp))
  clear hZ hG hhb HS HL e1
  refine (KA.out _ HS0.out).mono ?_
  rintro e w' ⟨rfl, rfl⟩
  have h0 : w0.cell? ⟨hb, 0, none⟩ = some (.int .i64 n0) := blk_cell HZ0.out.h 0
  have h1 : w0.cell? ⟨hb, 1, none⟩ = some (.bool mp) := blk_cell HZ0.out.h 1
  have h2 : w0.cell? ⟨hb, 2, none⟩ = some (.int .i64 x2) := blk_cell HZ0.out.h 2
  have h3 : w0.cell? ⟨hb, 3, none⟩ = some (.int .i64 n3) := blk_cell HZ0.out.h 3
  have h4 : w0.cell? ⟨hb, 4, none⟩ = some (.int .i64 n4) := blk_cell HZ0.out.h 4
  have h5 : w0.cell? ⟨hb, 5, none⟩ = some (.int .i64 n5) := blk_cell HZ0.out.h 5
  have h6 : w0.cell? ⟨hb, 6, none⟩ = some (.int .i64 n6) := blk_cell HZ0.out.h 6
  have h7 : w0.cell? ⟨hb, 7, none⟩ = some (.int .i64 n7) := blk_cell HZ0.out.h 7
  have h8 : w0.cell? ⟨hb, 8, none⟩ = some (.int .i64 n8) := blk_cell HZ0.out.h 8
  have h9 : w0.cell? ⟨hb, 9, none⟩ = some (.int .i64 n9) := blk_cell HZ0.out.h 9
  have h10 : w0.cell? ⟨hb, 10, none⟩ = some (.bool lf) := blk_cell HZ0.out.h 10
  have h11 : w0.cell? ⟨hb, 11, none⟩ = some (.bool tp) := blk_cell HZ0.out.h 11
  have hl0 := blk_lt HZ0.out.h
  go_wp2_with fail
  refine (KS.out _).mono ?_
  rintro e w1 ⟨rfl, g1⟩
  have HZ1 := Lib.hid (HZ0.out.turned (Tn.gb g1 (S := []) (by simp)) (by simp) (by simp) (by simp))
  have HS1 := Lib.hid (HS0.out.grown g1 (by simp))
  have HL1 := Lib.hid (HL0.out.grown g1 (by simp))
  have HG1 := Lib.hid (gb_trans HG0.out g1)
  clear g1 HZ0 HS0 HL0 HG0 hl0 h0 h1 h2 h3 h4 h5 h6 h7 h8 h9 h10 h11
  go_wp2_with fail
  refine (KT.out _ HS1.out HL1.out).mono ?_
  rintro e w2 ⟨rfl, ⟨S2, L2⟩, t2⟩
  have HS2 := Lib.hid S2
  have HL2 := Lib.hid L2
  have HZ2 := Lib.hid (HZ1.out.turned t2 (by simp; omega) (by simp; omega) (by simp; omega))
  have HT2 := Lib.hid ((Tn.gb HG1.out (S := [b, l]) (by simp)).trans t2)
  clear S2 L2 t2 HS1 HL1 HZ1 HG1
  have h0 : w2.cell? ⟨hb, 0, none⟩ = some (.int .i64 n0) := blk_cell HZ2.out.h 0
  have h1 : w2.cell? ⟨hb, 1, none⟩ = some (.bool mp) := blk_cell HZ2.out.h 1
  have h2 : w2.cell? ⟨hb, 2, none⟩ = some (.int .i64 x2) := blk_cell HZ2.out.h 2
  have h3 : w2.cell? ⟨hb, 3, none⟩ = some (.int .i64 n3) := blk_cell HZ2.out.h 3
  have h4 : w2.cell? ⟨hb, 4, none⟩ = some (.int .i64 n4) := blk_cell HZ2.out.h 4
  have h5 : w2.cell? ⟨hb, 5, none⟩ = some (.int .i64 n5) := blk_cell HZ2.out.h 5
  have h6 : w2.cell? ⟨hb, 6, none⟩ = some (.int .i64 n6) := blk_cell HZ2.out.h 6
  have h7 : w2.cell? ⟨hb, 7, none⟩ = some (.int .i64 n7) := blk_cell HZ2.out.h 7
  have h8 : w2.cell? ⟨hb, 8, none⟩ = some (.int .i64 n8) := blk_cell HZ2.out.h 8
  have h9 : w2.cell? ⟨hb, 9, none⟩ = some (.int .i64 n9) := blk_cell HZ2.out.h 9
  have h10 : w2.cell? ⟨hb, 10, none⟩ = some (.bool lf) := blk_cell HZ2.out.h 10
  have h11 : w2.cell? ⟨hb, 11, none⟩ = some (.bool tp) := blk_cell HZ2.out.h 11
  have hl2 := blk_lt HZ2.out.h
  go_wp2_with fail
  refine (KP.out _ (HPT.out _ _ HP.out HT2.out)).mono ?_
  rintro e w5 ⟨rfl, g5⟩
  have HZ5 := Lib.hid (HZ2.out.turned (Tn.gb g5 (S := []) (by simp)) (by simp) (by simp) (by simp))
  have HS5 := Lib.hid (HS2.out.grown g5 (by simp))
  have HL5 := Lib.hid (HL2.out.grown g5 (by simp))
  have HT5 := Lib.hid (HT2.out.trans (Tn.gb g5 (S := [b, l]) (by simp)))
  have y0 := blk_cell HZ5.out.c 0
  have y1 := blk_cell HZ5.out.c 1
  have y2 := blk_cell HZ5.out.c 2
  have y3 := blk_cell HZ5.out.c 3
  have yf0 := blk_free HZ5.out.c 0
  have yf1 := blk_free HZ5.out.c 1
  have yf2 := blk_free HZ5.out.c 2
  have yf3 := blk_free HZ5.out.c 3
  have ym := blk_lt HZ5.out.c
  clear g5 HS2 HL2 HT2 HZ2 hl2 h0 h1 h2 h3 h4 h5 h6 h7 h8 h9 h10 h11
  go_wp2_with fail
  refine (KF.out _).mono ?_
  rintro e w3 ⟨rfl, g30⟩
  have g3 := gb_trans (World.grownBy_alloc w5 (.cells #[.int .u8 c0, .int .u8 c1, .int .u8 c2, .int .u8 c3] 135) none) g30
  have HS3 := Lib.hid (HS5.out.grown g3 (by simp))
  have HL3 := Lib.hid (HL5.out.grown g3 (by simp))
  have HT3 := Lib.hid (HT5.out.trans (Tn.gb g3 (S := [b, l]) (by simp)))
  have hZ3 := HZ5.out.turned (Tn.gb g3 (S := []) (by simp)) (by simp) (by simp) (by simp)
  clear g3 g30 HS5 HL5 HT5 HZ5 KP KT KS KA KF y0 y1 y2 y3 yf0 yf1 yf2 yf3 ym
  have r0 : w3.cell? ⟨hb + 1, 0, none⟩ = some (.int .u8 0) := blk_cell hZ3.c 0
  have rf0 := blk_free hZ3.c 0
  have r1 : w3.cell? ⟨hb + 1, 1, none⟩ = some (.int .u8 0) := blk_cell hZ3.c 1
  have rf1 := blk_free hZ3.c 1
  have r2 : w3.cell? ⟨hb + 1, 2, none⟩ = some (.int .u8 0) := blk_cell hZ3.c 2
  have rf2 := blk_free hZ3.c 2
  have r3 : w3.cell? ⟨hb + 1, 3, none⟩ = some (.int .u8 0) := blk_cell hZ3.c 3
  have rf3 := blk_free hZ3.c 3
  have q0 : w3.cell? ⟨hb + 2, 0, none⟩ = some (.int .i64 0) := blk_cell hZ3.f 0
  have qf0 := blk_free hZ3.f 0
  have q1 : w3.cell? ⟨hb + 2, 1, none⟩ = some (.int .i64 0) := blk_cell hZ3.f 1
  have qf1 := blk_free hZ3.f 1
  have q2 : w3.cell? ⟨hb + 2, 2, none⟩ = some (.int .i64 0) := blk_cell hZ3.f 2
  have qf2 := blk_free hZ3.f 2
  have m1 := blk_lt hZ3.c
  have m2 := blk_lt hZ3.f
  have n1 : hb + 1 ≠ hb + 2 := by omega
  have n2 : hb + 2 ≠ hb + 1 := by omega
  clear hZ3
  try go_wp2_with fail
  try (refine (KF.out _).mono ?_; rintro e w' ⟨rfl, g5⟩)
  go_wp2
  refine bodyPost_ret (v := .tuple #[.agg #[.int .u8 0, .int .u8 0, .int .u8 0, .int .u8 0], .agg #[.int .i64 2, .int .i64 2, .int .i64 p]]) (by simp only [results, Tryz.results132]; go_simp) rfl ?_
  have h1 := HHB.out
  refine ⟨rfl, ⟨?_, ?_, HPT.out _ _ HP.out ?_⟩, ?_⟩
  · repeat' first | with_reducible exact HS3.out | with_reducible refine so_oth ?_ (by omega) | with_reducible refine so_dr ?_ | with_reducible refine so_al ?_
  · repeat' first | with_reducible exact HL3.out | with_reducible refine Led.oth ?_ (by omega) | with_reducible refine led_dr ?_ | with_reducible refine led_al ?_
  · repeat' first | with_reducible exact HT3.out | with_reducible refine tn_own1 ?_ (by omega) | with_reducible refine Tn.dr ?_ | with_reducible refine Tn.al ?_
  · repeat' first | with_reducible exact HT3.out | with_reducible refine tn_own1 ?_ (by omega) | with_reducible refine Tn.dr ?_ | with_reducible refine Tn.al ?_

set_option maxRecDepth 100000 in
set_option maxHeartbeats 2000000 in
theorem tPixel_no (n0 n3 n4 n5 n6 n7 n8 n9 : Int) (x2 : Nat) (mp lf tp : Bool) (b l : Nat) (s z : ByteArray) (p f t sz : Nat) (x : St) (pp : Value) (W : World) (P : World → Prop) (h : Sr.So b l s p f t W) (hl : Led l x.ls W) (ok : x.Ok) (k a : Int) (rd : Sr.rdB x p t sz = false) (hf : (if ((x.work 1).1).r = 0 then Value.agg #[.int .i64 1, .int .i64 2, .int .i64 t] else .agg #[.int .i64 4, .int .i64 2, .int .i64 p]) = .agg #[.int .i64 k, .int .i64 2, .int .i64 a])
    (KS0 : ∀ u, Calls Tryz.prog 153 #[.agg #[.int .i64 n0, .bool mp, .int .i64 x2, .int .i64 n3, .int .i64 n4, .int .i64 n5, .int .i64 n6, .int .i64 n7, .int .i64 n8, .int .i64 n9, .bool lf, .bool tp]] u fun e w' => e = .returned (.int .i64 sz) ∧ u.grownBy w' none) (hP : P W) (hPt : ∀ u u', P u → Tn u u' [b, l] → P u') :
    Calls Tryz.prog 132 #[.pointer (some ⟨b, 0, none⟩), .agg #[.int .i64 n0, .bool mp, .int .i64 x2, .int .i64 n3, .int .i64 n4, .int .i64 n5, .int .i64 n6, .int .i64 n7, .int .i64 n8, .int .i64 n9, .bool lf, .bool tp], pp] W
      fun e w' => e = .returned (.tuple #[.agg #[.int .u8 0, .int .u8 0, .int .u8 0, .int .u8 0], .agg #[.int .i64 k, .int .i64 2, .int .i64 a]]) ∧ (Sr.So b l s p f t w' ∧ Led l (x.work 1).1.ls w' ∧ P w') ∧ Tn W w' [b, l] := by
  have hblt := h.lt
  have hllt := hl.lt
  have HS := Lib.hid h
  have HL := Lib.hid hl
  have HP := Lib.hid hP
  have HPT := Lib.hid hPt
  have KS := Lib.hid KS0
  have KA := Lib.hid (fun u (hu : Sr.So b l s p f t u) => Sr.at_calls b l s p f t u hu)
  have KT := Lib.hid (fun u (hu : Sr.So b l s p f t u) (hlu : Led l x.ls u) => Sr.take_no b l s p f t x sz u hu hlu ok rd)
  have KF0 := fun u (hu : Sr.So b l s p f t u) (hlu : Led l (x.work 1).1.ls u) => Sr.fault_calls b l s p f t (x.work 1).1 2 u hu hlu
  rw [hf] at KF0
  have KF := Lib.hid KF0
  clear KF0 KS0 hP hPt h hl ok rd hf
  go_enter Tryz.func132, Tryz.ntmps132
  go_wp2_with fail
  obtain ⟨hb, hhb⟩ : ∃ r, W.heap.size = r := ⟨_, rfl⟩
  have hZ : ZP hb n0 n3 n4 n5 n6 n7 n8 n9 x2 mp lf tp (((W.alloc (.cells #[.int .i64 n0, .bool mp, .int .i64 x2, .int .i64 n3, .int .i64 n4, .int .i64 n5, .int .i64 n6, .int .i64 n7, .int .i64 n8, .int .i64 n9, .bool lf, .bool tp] 55)).alloc (.cells #[.int .u8 0, .int .u8 0, .int .u8 0, .int .u8 0] 135)).alloc (.cells #[.int .i64 0, .int .i64 0, .int .i64 0] 29)) := by
    rw [← hhb]
    refine ⟨blk_al (blk_al blk_at _) _, ?_, ?_⟩
    · rw [← size_alloc W (.cells #[.int .i64 n0, .bool mp, .int .i64 x2, .int .i64 n3, .int .i64 n4, .int .i64 n5, .int .i64 n6, .int .i64 n7, .int .i64 n8, .int .i64 n9, .bool lf, .bool tp] 55)]; exact blk_al blk_at _
    · rw [show W.heap.size + 2 = ((W.alloc (.cells #[.int .i64 n0, .bool mp, .int .i64 x2, .int .i64 n3, .int .i64 n4, .int .i64 n5, .int .i64 n6, .int .i64 n7, .int .i64 n8, .int .i64 n9, .bool lf, .bool tp] 55)).alloc (.cells #[.int .u8 0, .int .u8 0, .int .u8 0, .int .u8 0] 135)).heap.size from by rw [size_alloc, size_alloc]]; exact blk_at
  have hG : W.grownBy (((W.alloc (.cells #[.int .i64 n0, .bool mp, .int .i64 x2, .int .i64 n3, .int .i64 n4, .int .i64 n5, .int .i64 n6, .int .i64 n7, .int .i64 n8, .int .i64 n9, .bool lf, .bool tp] 55)).alloc (.cells #[.int .u8 0, .int .u8 0, .int .u8 0, .int .u8 0] 135)).alloc (.cells #[.int .i64 0, .int .i64 0, .int .i64 0] 29)) none := gb_trans (gb_trans (World.grownBy_alloc _ _ _) (World.grownBy_alloc _ _ _)) (World.grownBy_alloc _ _ _)
  rw [hhb] at hblt hllt ⊢
  have e1 : ((W.alloc (.cells #[.int .i64 n0, .bool mp, .int .i64 x2, .int .i64 n3, .int .i64 n4, .int .i64 n5, .int .i64 n6, .int .i64 n7, .int .i64 n8, .int .i64 n9, .bool lf, .bool tp] 55)).alloc (.cells #[.int .u8 0, .int .u8 0, .int .u8 0, .int .u8 0] 135)).heap.size = hb + 2 := by rw [size_alloc, size_alloc, hhb]
  have HHB := Lib.hid hhb
  generalize (((W.alloc (.cells #[.int .i64 n0, .bool mp, .int .i64 x2, .int .i64 n3, .int .i64 n4, .int .i64 n5, .int .i64 n6, .int .i64 n7, .int .i64 n8, .int .i64 n9, .bool lf, .bool tp] 55)).alloc (.cells #[.int .u8 0, .int .u8 0, .int .u8 0, .int .u8 0] 135)).alloc (.cells #[.int .i64 0, .int .i64 0, .int .i64 0] 29)) = w0 at hZ hG ⊢
  have HZ0 := Lib.hid hZ
  have HG0 := Lib.hid hG
  have HS0 := Lib.hid (HS.out.grown hG (by simp))
  have HL0 := Lib.hid (HL.out.grown hG (by simp))
  clear hZ hG hhb HS HL e1
  refine (KA.out _ HS0.out).mono ?_
  rintro e w' ⟨rfl, rfl⟩
  have h0 : w0.cell? ⟨hb, 0, none⟩ = some (.int .i64 n0) := blk_cell HZ0.out.h 0
  have h1 : w0.cell? ⟨hb, 1, none⟩ = some (.bool mp) := blk_cell HZ0.out.h 1
  have h2 : w0.cell? ⟨hb, 2, none⟩ = some (.int .i64 x2) := blk_cell HZ0.out.h 2
  have h3 : w0.cell? ⟨hb, 3, none⟩ = some (.int .i64 n3) := blk_cell HZ0.out.h 3
  have h4 : w0.cell? ⟨hb, 4, none⟩ = some (.int .i64 n4) := blk_cell HZ0.out.h 4
  have h5 : w0.cell? ⟨hb, 5, none⟩ = some (.int .i64 n5) := blk_cell HZ0.out.h 5
  have h6 : w0.cell? ⟨hb, 6, none⟩ = some (.int .i64 n6) := blk_cell HZ0.out.h 6
  have h7 : w0.cell? ⟨hb, 7, none⟩ = some (.int .i64 n7) := blk_cell HZ0.out.h 7
  have h8 : w0.cell? ⟨hb, 8, none⟩ = some (.int .i64 n8) := blk_cell HZ0.out.h 8
  have h9 : w0.cell? ⟨hb, 9, none⟩ = some (.int .i64 n9) := blk_cell HZ0.out.h 9
  have h10 : w0.cell? ⟨hb, 10, none⟩ = some (.bool lf) := blk_cell HZ0.out.h 10
  have h11 : w0.cell? ⟨hb, 11, none⟩ = some (.bool tp) := blk_cell HZ0.out.h 11
  have hl0 := blk_lt HZ0.out.h
  go_wp2_with fail
  refine (KS.out _).mono ?_
  rintro e w1 ⟨rfl, g1⟩
  have HZ1 := Lib.hid (HZ0.out.turned (Tn.gb g1 (S := []) (by simp)) (by simp) (by simp) (by simp))
  have HS1 := Lib.hid (HS0.out.grown g1 (by simp))
  have HL1 := Lib.hid (HL0.out.grown g1 (by simp))
  have HG1 := Lib.hid (gb_trans HG0.out g1)
  clear g1 HZ0 HS0 HL0 HG0 hl0 h0 h1 h2 h3 h4 h5 h6 h7 h8 h9 h10 h11
  go_wp2_with fail
  refine (KT.out _ HS1.out HL1.out).mono ?_
  rintro e w2 ⟨rfl, ⟨S2, L2⟩, g2⟩
  have HS2 := Lib.hid S2
  have HL2 := Lib.hid L2
  have t2 := Tn.gb g2 (S := [b, l]) (by simp)
  have HZ2 := Lib.hid (HZ1.out.turned t2 (by simp; omega) (by simp; omega) (by simp; omega))
  have HT2 := Lib.hid ((Tn.gb HG1.out (S := [b, l]) (by simp)).trans t2)
  clear S2 L2 t2 g2 HS1 HL1 HZ1 HG1
  have y0 := blk_cell HZ2.out.c 0
  have y1 := blk_cell HZ2.out.c 1
  have y2 := blk_cell HZ2.out.c 2
  have y3 := blk_cell HZ2.out.c 3
  have yf0 := blk_free HZ2.out.c 0
  have yf1 := blk_free HZ2.out.c 1
  have yf2 := blk_free HZ2.out.c 2
  have yf3 := blk_free HZ2.out.c 3
  have ym := blk_lt HZ2.out.c
  go_wp2_with fail
  refine (KF.out _ HS2.out HL2.out).mono ?_
  rintro e w3 ⟨rfl, g3⟩
  have HS3 := Lib.hid (HS2.out.grown g3 (by simp))
  have HL3 := Lib.hid (HL2.out.grown g3 (by simp))
  have HT3 := Lib.hid (HT2.out.trans (Tn.gb g3 (S := [b, l]) (by simp)))
  have hZ3 := HZ2.out.turned (Tn.gb g3 (S := []) (by simp)) (by simp) (by simp) (by simp)
  clear g3 HS2 HL2 HT2 HZ2 KT KS KA KF y0 y1 y2 y3 yf0 yf1 yf2 yf3 ym
  have r0 : w3.cell? ⟨hb + 1, 0, none⟩ = some (.int .u8 0) := blk_cell hZ3.c 0
  have rf0 := blk_free hZ3.c 0
  have r1 : w3.cell? ⟨hb + 1, 1, none⟩ = some (.int .u8 0) := blk_cell hZ3.c 1
  have rf1 := blk_free hZ3.c 1
  have r2 : w3.cell? ⟨hb + 1, 2, none⟩ = some (.int .u8 0) := blk_cell hZ3.c 2
  have rf2 := blk_free hZ3.c 2
  have r3 : w3.cell? ⟨hb + 1, 3, none⟩ = some (.int .u8 0) := blk_cell hZ3.c 3
  have rf3 := blk_free hZ3.c 3
  have q0 : w3.cell? ⟨hb + 2, 0, none⟩ = some (.int .i64 0) := blk_cell hZ3.f 0
  have qf0 := blk_free hZ3.f 0
  have q1 : w3.cell? ⟨hb + 2, 1, none⟩ = some (.int .i64 0) := blk_cell hZ3.f 1
  have qf1 := blk_free hZ3.f 1
  have q2 : w3.cell? ⟨hb + 2, 2, none⟩ = some (.int .i64 0) := blk_cell hZ3.f 2
  have qf2 := blk_free hZ3.f 2
  have m1 := blk_lt hZ3.c
  have m2 := blk_lt hZ3.f
  have n1 : hb + 1 ≠ hb + 2 := by omega
  have n2 : hb + 2 ≠ hb + 1 := by omega
  clear hZ3
  try go_wp2_with fail
  try (refine (KF.out _).mono ?_; rintro e w' ⟨rfl, g5⟩)
  go_wp2
  refine bodyPost_ret (v := .tuple #[.agg #[.int .u8 0, .int .u8 0, .int .u8 0, .int .u8 0], .agg #[.int .i64 k, .int .i64 2, .int .i64 a]]) (by simp only [results, Tryz.results132]; go_simp) rfl ?_
  have h1 := HHB.out
  refine ⟨rfl, ⟨?_, ?_, HPT.out _ _ HP.out ?_⟩, ?_⟩
  · repeat' first | with_reducible exact HS3.out | with_reducible refine so_oth ?_ (by omega) | with_reducible refine so_dr ?_ | with_reducible refine so_al ?_
  · repeat' first | with_reducible exact HL3.out | with_reducible refine Led.oth ?_ (by omega) | with_reducible refine led_dr ?_ | with_reducible refine led_al ?_
  · repeat' first | with_reducible exact HT3.out | with_reducible refine tn_own1 ?_ (by omega) | with_reducible refine Tn.dr ?_ | with_reducible refine Tn.al ?_
  · repeat' first | with_reducible exact HT3.out | with_reducible refine tn_own1 ?_ (by omega) | with_reducible refine Tn.dr ?_ | with_reducible refine Tn.al ?_

end Go.Proofs.YtnieeckdldpebaaGreat.Tp

/- Layer 17: the document's Color, walked, by classes (written by wip/gen/tp1.py). -/
namespace Go.Proofs.YtnieeckdldpebaaGreat.Tp
open Go.ChangeShapes Go.WideShapes Go.ChangeAt Go.RowKit
open Go.Proofs.YtnieeckdldpebaaGreat.Sc Go.Proofs.YtnieeckdldpebaaGreat.Le Go.Proofs.YtnieeckdldpebaaGreat.Pa Go.Proofs.YtnieeckdldpebaaGreat.Tg
set_option linter.unusedVariables false

set_option maxRecDepth 100000 in
set_option maxHeartbeats 2000000 in
theorem rcolor_15_0 (s z : ByteArray) (o : Nat) (W : World) (hz : s.extract o s.size = z) (ho : o + 2 ≤ s.size) (hm : s.size ≤ 9223372036854775807) :
    Calls Tryz.prog 106 #[.string z, .int .i64 15, .int .i64 0] W fun e w' => e = .returned (.agg #[.int .u8 (entAt 0 s o 0), .int .u8 (entAt 0 s o 1), .int .u8 (entAt 0 s o 2), .int .u8 (pxA 15 0 s o)]) ∧ W.grownBy w' none := by
  have hzs : z.size = s.size - o := by rw [← hz, ByteArray.size_extract]; omega
  have KE0 : ∀ u, Calls Tryz.prog 105 #[.string z, .int .i64 2] u fun e w' => e = .returned (.agg #[.int .u8 (entAt 0 s o 0), .int .u8 (entAt 0 s o 1), .int .u8 (entAt 0 s o 2), .int .u8 (entAt 0 s o 3)]) ∧ u.grownBy w' none := fun u => rentry_two z _ _ u (by omega) (by omega) (bt_cut s z o s.size 0 hz (by omega) (by omega)) (bt_cut s z o s.size 1 hz (by omega) (by omega))
  obtain ⟨c0, e0⟩ : ∃ c, entAt 0 s o 0 = c := ⟨_, rfl⟩
  obtain ⟨c1, e1⟩ : ∃ c, entAt 0 s o 1 = c := ⟨_, rfl⟩
  obtain ⟨c2, e2⟩ : ∃ c, entAt 0 s o 2 = c := ⟨_, rfl⟩
  obtain ⟨c3, e3⟩ : ∃ c, entAt 0 s o 3 = c := ⟨_, rfl⟩
  simp only [e0, e1, e2, e3] at KE0
  rw [e0, e1, e2]
  have KE := Lib.hid KE0
  have KK := Lib.hid (fun u => rk_15 u)
  clear KE0
  have hA : pxA 15 0 s o = entAt 0 s o 3 := by unfold pxA pxT; simp
  rw [hA, e3]
  clear e0 e1 e2 e3 hA hz
  go_enter Tryz.func106, Tryz.ntmps106
  go_wp2_with fail
  have hR : (W.alloc (.cells #[.int .u8 0, .int .u8 0, .int .u8 0, .int .u8 0] 135)).heap[W.heap.size]? = some (.cells #[.int .u8 0, .int .u8 0, .int .u8 0, .int .u8 0] 135 (0, 0)) := blk_at
  have hG := World.grownBy_alloc W (.cells #[.int .u8 0, .int .u8 0, .int .u8 0, .int .u8 0] 135) none
  obtain ⟨r, hr⟩ : ∃ r, W.heap.size = r := ⟨_, rfl⟩
  have hrs := size_alloc W (.cells #[.int .u8 0, .int .u8 0, .int .u8 0, .int .u8 0] 135)
  rw [hr] at hR hrs ⊢
  have HRW := Lib.hid hr
  generalize W.alloc (.cells #[.int .u8 0, .int .u8 0, .int .u8 0, .int .u8 0] 135) = w0 at hR hG hrs ⊢
  have HR := Lib.hid hR
  have HG := Lib.hid hG
  have HRS := Lib.hid hrs
  clear hR hG hr hrs
  refine (KK.out _).mono ?_
  rintro e w' ⟨rfl, rfl⟩
  go_wp2_with fail
  refine (KE.out _).mono ?_
  rintro e w1 ⟨rfl, g1⟩
  have hR1 := old0 g1 HR.out (blk_lt HR.out) (by simp)
  have hlt := blk_lt hR1
  have HG1 := Lib.hid (gb_trans HG.out g1)
  have HCW := Lib.hid (show W.heap.size ≤ w1.heap.size from (gb_trans HG.out g1).size)
  clear g1 HR HG
  go_upto_region 2 with fail
  have hC : (w1.alloc (.cells #[.int .u8 c0, .int .u8 c1, .int .u8 c2, .int .u8 c3] 135)).heap[w1.heap.size]? = some (.cells #[.int .u8 c0, .int .u8 c1, .int .u8 c2, .int .u8 c3] 135 (0, 0)) := blk_at
  have hR2 : (w1.alloc (.cells #[.int .u8 c0, .int .u8 c1, .int .u8 c2, .int .u8 c3] 135)).heap[r]? = some (.cells #[.int .u8 0, .int .u8 0, .int .u8 0, .int .u8 0] 135 (0, 0)) := blk_al hR1 _
  have HG2 := Lib.hid (gb_trans HG1.out (World.grownBy_alloc w1 (.cells #[.int .u8 c0, .int .u8 c1, .int .u8 c2, .int .u8 c3] 135) none))
  obtain ⟨q, hq'⟩ : ∃ q, w1.heap.size = q := ⟨_, rfl⟩
  rw [hq'] at hC hlt HCW ⊢
  generalize w1.alloc (.cells #[.int .u8 c0, .int .u8 c1, .int .u8 c2, .int .u8 c3] 135) = w2 at hC hR2 HG2 ⊢
  clear hR1 HG1 hq'
  have p0 : w2.cell? ⟨q, 0, none⟩ = some (.int .u8 c0) := blk_cell hC 0
  have pf0 := blk_free hC 0
  have p1 : w2.cell? ⟨q, 1, none⟩ = some (.int .u8 c1) := blk_cell hC 1
  have pf1 := blk_free hC 1
  have p2 : w2.cell? ⟨q, 2, none⟩ = some (.int .u8 c2) := blk_cell hC 2
  have pf2 := blk_free hC 2
  have p3 : w2.cell? ⟨q, 3, none⟩ = some (.int .u8 c3) := blk_cell hC 3
  have pf3 := blk_free hC 3
  have r0 : w2.cell? ⟨r, 0, none⟩ = some (.int .u8 0) := blk_cell hR2 0
  have rf0 := blk_free hR2 0
  have r1 : w2.cell? ⟨r, 1, none⟩ = some (.int .u8 0) := blk_cell hR2 1
  have rf1 := blk_free hR2 1
  have r2 : w2.cell? ⟨r, 2, none⟩ = some (.int .u8 0) := blk_cell hR2 2
  have rf2 := blk_free hR2 2
  have r3 : w2.cell? ⟨r, 3, none⟩ = some (.int .u8 0) := blk_cell hR2 3
  have rf3 := blk_free hR2 3
  have n1 : r ≠ q := by omega
  have n2 : q ≠ r := by omega
  have l1 := blk_lt hC
  have l2 := blk_lt hR2
  clear hC hR2 hlt KK KE
  go_wp2
  refine bodyPost_ret (v := .agg #[.int .u8 c0, .int .u8 c1, .int .u8 c2, .int .u8 c3]) (by simp only [results, Tryz.results106]; go_simp) rfl ⟨rfl, ?_⟩
  have h1 := HRW.out
  have h2 := HCW.out
  repeat' first | with_reducible exact HG2.out | with_reducible refine gb_own ?_ (by omega) (gb_set _ _ _ _) | with_reducible refine gb_trans ?_ (gb_drew _ _) | with_reducible refine gb_trans ?_ (World.grownBy_alloc _ _ _)

set_option maxRecDepth 100000 in
set_option maxHeartbeats 2000000 in
theorem rcolor_16_0 (s z : ByteArray) (o : Nat) (W : World) (hz : s.extract o s.size = z) (ho : o + 2 ≤ s.size) (hm : s.size ≤ 9223372036854775807) :
    Calls Tryz.prog 106 #[.string z, .int .i64 16, .int .i64 0] W fun e w' => e = .returned (.agg #[.int .u8 (entAt 0 s o 0), .int .u8 (entAt 0 s o 1), .int .u8 (entAt 0 s o 2), .int .u8 (pxA 16 0 s o)]) ∧ W.grownBy w' none := by
  have hzs : z.size = s.size - o := by rw [← hz, ByteArray.size_extract]; omega
  have KE0 : ∀ u, Calls Tryz.prog 105 #[.string z, .int .i64 2] u fun e w' => e = .returned (.agg #[.int .u8 (entAt 0 s o 0), .int .u8 (entAt 0 s o 1), .int .u8 (entAt 0 s o 2), .int .u8 (entAt 0 s o 3)]) ∧ u.grownBy w' none := fun u => rentry_two z _ _ u (by omega) (by omega) (bt_cut s z o s.size 0 hz (by omega) (by omega)) (bt_cut s z o s.size 1 hz (by omega) (by omega))
  obtain ⟨c0, e0⟩ : ∃ c, entAt 0 s o 0 = c := ⟨_, rfl⟩
  obtain ⟨c1, e1⟩ : ∃ c, entAt 0 s o 1 = c := ⟨_, rfl⟩
  obtain ⟨c2, e2⟩ : ∃ c, entAt 0 s o 2 = c := ⟨_, rfl⟩
  obtain ⟨c3, e3⟩ : ∃ c, entAt 0 s o 3 = c := ⟨_, rfl⟩
  simp only [e0, e1, e2, e3] at KE0
  rw [e0, e1, e2]
  have KE := Lib.hid KE0
  have KK := Lib.hid (fun u => rk_16 u)
  clear KE0
  have hA : pxA 16 0 s o = entAt 0 s o 3 := by unfold pxA pxT; simp
  rw [hA, e3]
  clear e0 e1 e2 e3 hA hz
  go_enter Tryz.func106, Tryz.ntmps106
  go_wp2_with fail
  have hR : (W.alloc (.cells #[.int .u8 0, .int .u8 0, .int .u8 0, .int .u8 0] 135)).heap[W.heap.size]? = some (.cells #[.int .u8 0, .int .u8 0, .int .u8 0, .int .u8 0] 135 (0, 0)) := blk_at
  have hG := World.grownBy_alloc W (.cells #[.int .u8 0, .int .u8 0, .int .u8 0, .int .u8 0] 135) none
  obtain ⟨r, hr⟩ : ∃ r, W.heap.size = r := ⟨_, rfl⟩
  have hrs := size_alloc W (.cells #[.int .u8 0, .int .u8 0, .int .u8 0, .int .u8 0] 135)
  rw [hr] at hR hrs ⊢
  have HRW := Lib.hid hr
  generalize W.alloc (.cells #[.int .u8 0, .int .u8 0, .int .u8 0, .int .u8 0] 135) = w0 at hR hG hrs ⊢
  have HR := Lib.hid hR
  have HG := Lib.hid hG
  have HRS := Lib.hid hrs
  clear hR hG hr hrs
  refine (KK.out _).mono ?_
  rintro e w' ⟨rfl, rfl⟩
  go_wp2_with fail
  refine (KE.out _).mono ?_
  rintro e w1 ⟨rfl, g1⟩
  have hR1 := old0 g1 HR.out (blk_lt HR.out) (by simp)
  have hlt := blk_lt hR1
  have HG1 := Lib.hid (gb_trans HG.out g1)
  have HCW := Lib.hid (show W.heap.size ≤ w1.heap.size from (gb_trans HG.out g1).size)
  clear g1 HR HG
  go_upto_region 2 with fail
  have hC : (w1.alloc (.cells #[.int .u8 c0, .int .u8 c1, .int .u8 c2, .int .u8 c3] 135)).heap[w1.heap.size]? = some (.cells #[.int .u8 c0, .int .u8 c1, .int .u8 c2, .int .u8 c3] 135 (0, 0)) := blk_at
  have hR2 : (w1.alloc (.cells #[.int .u8 c0, .int .u8 c1, .int .u8 c2, .int .u8 c3] 135)).heap[r]? = some (.cells #[.int .u8 0, .int .u8 0, .int .u8 0, .int .u8 0] 135 (0, 0)) := blk_al hR1 _
  have HG2 := Lib.hid (gb_trans HG1.out (World.grownBy_alloc w1 (.cells #[.int .u8 c0, .int .u8 c1, .int .u8 c2, .int .u8 c3] 135) none))
  obtain ⟨q, hq'⟩ : ∃ q, w1.heap.size = q := ⟨_, rfl⟩
  rw [hq'] at hC hlt HCW ⊢
  generalize w1.alloc (.cells #[.int .u8 c0, .int .u8 c1, .int .u8 c2, .int .u8 c3] 135) = w2 at hC hR2 HG2 ⊢
  clear hR1 HG1 hq'
  have p0 : w2.cell? ⟨q, 0, none⟩ = some (.int .u8 c0) := blk_cell hC 0
  have pf0 := blk_free hC 0
  have p1 : w2.cell? ⟨q, 1, none⟩ = some (.int .u8 c1) := blk_cell hC 1
  have pf1 := blk_free hC 1
  have p2 : w2.cell? ⟨q, 2, none⟩ = some (.int .u8 c2) := blk_cell hC 2
  have pf2 := blk_free hC 2
  have p3 : w2.cell? ⟨q, 3, none⟩ = some (.int .u8 c3) := blk_cell hC 3
  have pf3 := blk_free hC 3
  have r0 : w2.cell? ⟨r, 0, none⟩ = some (.int .u8 0) := blk_cell hR2 0
  have rf0 := blk_free hR2 0
  have r1 : w2.cell? ⟨r, 1, none⟩ = some (.int .u8 0) := blk_cell hR2 1
  have rf1 := blk_free hR2 1
  have r2 : w2.cell? ⟨r, 2, none⟩ = some (.int .u8 0) := blk_cell hR2 2
  have rf2 := blk_free hR2 2
  have r3 : w2.cell? ⟨r, 3, none⟩ = some (.int .u8 0) := blk_cell hR2 3
  have rf3 := blk_free hR2 3
  have n1 : r ≠ q := by omega
  have n2 : q ≠ r := by omega
  have l1 := blk_lt hC
  have l2 := blk_lt hR2
  clear hC hR2 hlt KK KE
  go_wp2
  refine bodyPost_ret (v := .agg #[.int .u8 c0, .int .u8 c1, .int .u8 c2, .int .u8 c3]) (by simp only [results, Tryz.results106]; go_simp) rfl ⟨rfl, ?_⟩
  have h1 := HRW.out
  have h2 := HCW.out
  repeat' first | with_reducible exact HG2.out | with_reducible refine gb_own ?_ (by omega) (gb_set _ _ _ _) | with_reducible refine gb_trans ?_ (gb_drew _ _) | with_reducible refine gb_trans ?_ (World.grownBy_alloc _ _ _)

set_option maxRecDepth 100000 in
set_option maxHeartbeats 2000000 in
theorem rcolor_16_1 (s z : ByteArray) (o : Nat) (W : World) (hz : s.extract o s.size = z) (ho : o + 2 ≤ s.size) (hm : s.size ≤ 9223372036854775807) :
    Calls Tryz.prog 106 #[.string z, .int .i64 16, .int .i64 1] W fun e w' => e = .returned (.agg #[.int .u8 (entAt 0 s o 0), .int .u8 (entAt 0 s o 1), .int .u8 (entAt 0 s o 2), .int .u8 (pxA 16 1 s o)]) ∧ W.grownBy w' none := by
  have hzs : z.size = s.size - o := by rw [← hz, ByteArray.size_extract]; omega
  have KE0 : ∀ u, Calls Tryz.prog 105 #[.string z, .int .i64 2] u fun e w' => e = .returned (.agg #[.int .u8 (entAt 0 s o 0), .int .u8 (entAt 0 s o 1), .int .u8 (entAt 0 s o 2), .int .u8 (entAt 0 s o 3)]) ∧ u.grownBy w' none := fun u => rentry_two z _ _ u (by omega) (by omega) (bt_cut s z o s.size 0 hz (by omega) (by omega)) (bt_cut s z o s.size 1 hz (by omega) (by omega))
  obtain ⟨c0, e0⟩ : ∃ c, entAt 0 s o 0 = c := ⟨_, rfl⟩
  obtain ⟨c1, e1⟩ : ∃ c, entAt 0 s o 1 = c := ⟨_, rfl⟩
  obtain ⟨c2, e2⟩ : ∃ c, entAt 0 s o 2 = c := ⟨_, rfl⟩
  obtain ⟨c3, e3⟩ : ∃ c, entAt 0 s o 3 = c := ⟨_, rfl⟩
  simp only [e0, e1, e2, e3] at KE0
  rw [e0, e1, e2]
  have KE := Lib.hid KE0
  have KK := Lib.hid (fun u => rk_16 u)
  clear KE0
  have hb := bt_cut s z o s.size 1 hz (by omega) (by omega)
  have hbb := bt_bd s (o + 1)
  have i1 : (1 : Int) < (z.size : Int) := by omega
  have hA : pxA 16 1 s o = (if 128 ≤ bt s (o + 1) then 255 else 0) := by unfold pxA; rw [if_pos ⟨rfl, rfl⟩]
  rw [hA]
  obtain ⟨y, ey⟩ : ∃ y, bt s (o + 1) = y := ⟨_, rfl⟩
  rw [ey] at hb hbb ⊢
  clear e0 e1 e2 e3 hA ey hz
  by_cases hy : 128 ≤ y
  · rw [if_pos hy]
    go_enter Tryz.func106, Tryz.ntmps106
    go_wp2_with fail
    have hR : (W.alloc (.cells #[.int .u8 0, .int .u8 0, .int .u8 0, .int .u8 0] 135)).heap[W.heap.size]? = some (.cells #[.int .u8 0, .int .u8 0, .int .u8 0, .int .u8 0] 135 (0, 0)) := blk_at
    have hG := World.grownBy_alloc W (.cells #[.int .u8 0, .int .u8 0, .int .u8 0, .int .u8 0] 135) none
    obtain ⟨r, hr⟩ : ∃ r, W.heap.size = r := ⟨_, rfl⟩
    have hrs := size_alloc W (.cells #[.int .u8 0, .int .u8 0, .int .u8 0, .int .u8 0] 135)
    rw [hr] at hR hrs ⊢
    have HRW := Lib.hid hr
    generalize W.alloc (.cells #[.int .u8 0, .int .u8 0, .int .u8 0, .int .u8 0] 135) = w0 at hR hG hrs ⊢
    have HR := Lib.hid hR
    have HG := Lib.hid hG
    have HRS := Lib.hid hrs
    clear hR hG hr hrs
    refine (KK.out _).mono ?_
    rintro e w' ⟨rfl, rfl⟩
    go_wp2_with fail
    refine (KE.out _).mono ?_
    rintro e w1 ⟨rfl, g1⟩
    have hR1 := old0 g1 HR.out (blk_lt HR.out) (by simp)
    have hlt := blk_lt hR1
    have HG1 := Lib.hid (gb_trans HG.out g1)
    have HCW := Lib.hid (show W.heap.size ≤ w1.heap.size from (gb_trans HG.out g1).size)
    clear g1 HR HG
    go_upto_region 2 with fail
    have hC : (w1.alloc (.cells #[.int .u8 c0, .int .u8 c1, .int .u8 c2, .int .u8 c3] 135)).heap[w1.heap.size]? = some (.cells #[.int .u8 c0, .int .u8 c1, .int .u8 c2, .int .u8 c3] 135 (0, 0)) := blk_at
    have hR2 : (w1.alloc (.cells #[.int .u8 c0, .int .u8 c1, .int .u8 c2, .int .u8 c3] 135)).heap[r]? = some (.cells #[.int .u8 0, .int .u8 0, .int .u8 0, .int .u8 0] 135 (0, 0)) := blk_al hR1 _
    have HG2 := Lib.hid (gb_trans HG1.out (World.grownBy_alloc w1 (.cells #[.int .u8 c0, .int .u8 c1, .int .u8 c2, .int .u8 c3] 135) none))
    obtain ⟨q, hq'⟩ : ∃ q, w1.heap.size = q := ⟨_, rfl⟩
    rw [hq'] at hC hlt HCW ⊢
    generalize w1.alloc (.cells #[.int .u8 c0, .int .u8 c1, .int .u8 c2, .int .u8 c3] 135) = w2 at hC hR2 HG2 ⊢
    clear hR1 HG1 hq'
    have p0 : w2.cell? ⟨q, 0, none⟩ = some (.int .u8 c0) := blk_cell hC 0
    have pf0 := blk_free hC 0
    have p1 : w2.cell? ⟨q, 1, none⟩ = some (.int .u8 c1) := blk_cell hC 1
    have pf1 := blk_free hC 1
    have p2 : w2.cell? ⟨q, 2, none⟩ = some (.int .u8 c2) := blk_cell hC 2
    have pf2 := blk_free hC 2
    have p3 : w2.cell? ⟨q, 3, none⟩ = some (.int .u8 c3) := blk_cell hC 3
    have pf3 := blk_free hC 3
    have r0 : w2.cell? ⟨r, 0, none⟩ = some (.int .u8 0) := blk_cell hR2 0
    have rf0 := blk_free hR2 0
    have r1 : w2.cell? ⟨r, 1, none⟩ = some (.int .u8 0) := blk_cell hR2 1
    have rf1 := blk_free hR2 1
    have r2 : w2.cell? ⟨r, 2, none⟩ = some (.int .u8 0) := blk_cell hR2 2
    have rf2 := blk_free hR2 2
    have r3 : w2.cell? ⟨r, 3, none⟩ = some (.int .u8 0) := blk_cell hR2 3
    have rf3 := blk_free hR2 3
    have n1 : r ≠ q := by omega
    have n2 : q ≠ r := by omega
    have l1 := blk_lt hC
    have l2 := blk_lt hR2
    clear hC hR2 hlt KK KE
    go_wp2
    refine bodyPost_ret (v := .agg #[.int .u8 c0, .int .u8 c1, .int .u8 c2, .int .u8 255]) (by simp only [results, Tryz.results106]; go_simp) rfl ⟨rfl, ?_⟩
    have h1 := HRW.out
    have h2 := HCW.out
    repeat' first | with_reducible exact HG2.out | with_reducible refine gb_own ?_ (by omega) (gb_set _ _ _ _) | with_reducible refine gb_trans ?_ (gb_drew _ _) | with_reducible refine gb_trans ?_ (World.grownBy_alloc _ _ _)
  · rw [if_neg hy]
    go_enter Tryz.func106, Tryz.ntmps106
    go_wp2_with fail
    have hR : (W.alloc (.cells #[.int .u8 0, .int .u8 0, .int .u8 0, .int .u8 0] 135)).heap[W.heap.size]? = some (.cells #[.int .u8 0, .int .u8 0, .int .u8 0, .int .u8 0] 135 (0, 0)) := blk_at
    have hG := World.grownBy_alloc W (.cells #[.int .u8 0, .int .u8 0, .int .u8 0, .int .u8 0] 135) none
    obtain ⟨r, hr⟩ : ∃ r, W.heap.size = r := ⟨_, rfl⟩
    have hrs := size_alloc W (.cells #[.int .u8 0, .int .u8 0, .int .u8 0, .int .u8 0] 135)
    rw [hr] at hR hrs ⊢
    have HRW := Lib.hid hr
    generalize W.alloc (.cells #[.int .u8 0, .int .u8 0, .int .u8 0, .int .u8 0] 135) = w0 at hR hG hrs ⊢
    have HR := Lib.hid hR
    have HG := Lib.hid hG
    have HRS := Lib.hid hrs
    clear hR hG hr hrs
    refine (KK.out _).mono ?_
    rintro e w' ⟨rfl, rfl⟩
    go_wp2_with fail
    refine (KE.out _).mono ?_
    rintro e w1 ⟨rfl, g1⟩
    have hR1 := old0 g1 HR.out (blk_lt HR.out) (by simp)
    have hlt := blk_lt hR1
    have HG1 := Lib.hid (gb_trans HG.out g1)
    have HCW := Lib.hid (show W.heap.size ≤ w1.heap.size from (gb_trans HG.out g1).size)
    clear g1 HR HG
    go_upto_region 2 with fail
    have hC : (w1.alloc (.cells #[.int .u8 c0, .int .u8 c1, .int .u8 c2, .int .u8 c3] 135)).heap[w1.heap.size]? = some (.cells #[.int .u8 c0, .int .u8 c1, .int .u8 c2, .int .u8 c3] 135 (0, 0)) := blk_at
    have hR2 : (w1.alloc (.cells #[.int .u8 c0, .int .u8 c1, .int .u8 c2, .int .u8 c3] 135)).heap[r]? = some (.cells #[.int .u8 0, .int .u8 0, .int .u8 0, .int .u8 0] 135 (0, 0)) := blk_al hR1 _
    have HG2 := Lib.hid (gb_trans HG1.out (World.grownBy_alloc w1 (.cells #[.int .u8 c0, .int .u8 c1, .int .u8 c2, .int .u8 c3] 135) none))
    obtain ⟨q, hq'⟩ : ∃ q, w1.heap.size = q := ⟨_, rfl⟩
    rw [hq'] at hC hlt HCW ⊢
    generalize w1.alloc (.cells #[.int .u8 c0, .int .u8 c1, .int .u8 c2, .int .u8 c3] 135) = w2 at hC hR2 HG2 ⊢
    clear hR1 HG1 hq'
    have p0 : w2.cell? ⟨q, 0, none⟩ = some (.int .u8 c0) := blk_cell hC 0
    have pf0 := blk_free hC 0
    have p1 : w2.cell? ⟨q, 1, none⟩ = some (.int .u8 c1) := blk_cell hC 1
    have pf1 := blk_free hC 1
    have p2 : w2.cell? ⟨q, 2, none⟩ = some (.int .u8 c2) := blk_cell hC 2
    have pf2 := blk_free hC 2
    have p3 : w2.cell? ⟨q, 3, none⟩ = some (.int .u8 c3) := blk_cell hC 3
    have pf3 := blk_free hC 3
    have r0 : w2.cell? ⟨r, 0, none⟩ = some (.int .u8 0) := blk_cell hR2 0
    have rf0 := blk_free hR2 0
    have r1 : w2.cell? ⟨r, 1, none⟩ = some (.int .u8 0) := blk_cell hR2 1
    have rf1 := blk_free hR2 1
    have r2 : w2.cell? ⟨r, 2, none⟩ = some (.int .u8 0) := blk_cell hR2 2
    have rf2 := blk_free hR2 2
    have r3 : w2.cell? ⟨r, 3, none⟩ = some (.int .u8 0) := blk_cell hR2 3
    have rf3 := blk_free hR2 3
    have n1 : r ≠ q := by omega
    have n2 : q ≠ r := by omega
    have l1 := blk_lt hC
    have l2 := blk_lt hR2
    clear hC hR2 hlt KK KE
    go_wp2
    refine bodyPost_ret (v := .agg #[.int .u8 c0, .int .u8 c1, .int .u8 c2, .int .u8 0]) (by simp only [results, Tryz.results106]; go_simp) rfl ⟨rfl, ?_⟩
    have h1 := HRW.out
    have h2 := HCW.out
    repeat' first | with_reducible exact HG2.out | with_reducible refine gb_own ?_ (by omega) (gb_set _ _ _ _) | with_reducible refine gb_trans ?_ (gb_drew _ _) | with_reducible refine gb_trans ?_ (World.grownBy_alloc _ _ _)

set_option maxRecDepth 100000 in
set_option maxHeartbeats 2000000 in
theorem rcolor_24_0 (s z : ByteArray) (o : Nat) (W : World) (hz : s.extract o s.size = z) (ho : o + 3 ≤ s.size) (hm : s.size ≤ 9223372036854775807) :
    Calls Tryz.prog 106 #[.string z, .int .i64 24, .int .i64 0] W fun e w' => e = .returned (.agg #[.int .u8 (entAt 1 s o 0), .int .u8 (entAt 1 s o 1), .int .u8 (entAt 1 s o 2), .int .u8 (pxA 24 0 s o)]) ∧ W.grownBy w' none := by
  have hzs : z.size = s.size - o := by rw [← hz, ByteArray.size_extract]; omega
  have KE0 : ∀ u, Calls Tryz.prog 105 #[.string z, .int .i64 3] u fun e w' => e = .returned (.agg #[.int .u8 (entAt 1 s o 0), .int .u8 (entAt 1 s o 1), .int .u8 (entAt 1 s o 2), .int .u8 (entAt 1 s o 3)]) ∧ u.grownBy w' none := fun u => rentry_three z 3 _ _ _ u (.inl rfl) (by omega) (by omega) (bt_cut s z o s.size 0 hz (by omega) (by omega)) (bt_cut s z o s.size 1 hz (by omega) (by omega)) (bt_cut s z o s.size 2 hz (by omega) (by omega))
  obtain ⟨c0, e0⟩ : ∃ c, entAt 1 s o 0 = c := ⟨_, rfl⟩
  obtain ⟨c1, e1⟩ : ∃ c, entAt 1 s o 1 = c := ⟨_, rfl⟩
  obtain ⟨c2, e2⟩ : ∃ c, entAt 1 s o 2 = c := ⟨_, rfl⟩
  obtain ⟨c3, e3⟩ : ∃ c, entAt 1 s o 3 = c := ⟨_, rfl⟩
  simp only [e0, e1, e2, e3] at KE0
  rw [e0, e1, e2]
  have KE := Lib.hid KE0
  have KK := Lib.hid (fun u => rk_24 u)
  clear KE0
  have hA : pxA 24 0 s o = entAt 1 s o 3 := by unfold pxA pxT; simp
  rw [hA, e3]
  clear e0 e1 e2 e3 hA hz
  go_enter Tryz.func106, Tryz.ntmps106
  go_wp2_with fail
  have hR : (W.alloc (.cells #[.int .u8 0, .int .u8 0, .int .u8 0, .int .u8 0] 135)).heap[W.heap.size]? = some (.cells #[.int .u8 0, .int .u8 0, .int .u8 0, .int .u8 0] 135 (0, 0)) := blk_at
  have hG := World.grownBy_alloc W (.cells #[.int .u8 0, .int .u8 0, .int .u8 0, .int .u8 0] 135) none
  obtain ⟨r, hr⟩ : ∃ r, W.heap.size = r := ⟨_, rfl⟩
  have hrs := size_alloc W (.cells #[.int .u8 0, .int .u8 0, .int .u8 0, .int .u8 0] 135)
  rw [hr] at hR hrs ⊢
  have HRW := Lib.hid hr
  generalize W.alloc (.cells #[.int .u8 0, .int .u8 0, .int .u8 0, .int .u8 0] 135) = w0 at hR hG hrs ⊢
  have HR := Lib.hid hR
  have HG := Lib.hid hG
  have HRS := Lib.hid hrs
  clear hR hG hr hrs
  refine (KK.out _).mono ?_
  rintro e w' ⟨rfl, rfl⟩
  go_wp2_with fail
  refine (KE.out _).mono ?_
  rintro e w1 ⟨rfl, g1⟩
  have hR1 := old0 g1 HR.out (blk_lt HR.out) (by simp)
  have hlt := blk_lt hR1
  have HG1 := Lib.hid (gb_trans HG.out g1)
  have HCW := Lib.hid (show W.heap.size ≤ w1.heap.size from (gb_trans HG.out g1).size)
  clear g1 HR HG
  go_upto_region 2 with fail
  have hC : (w1.alloc (.cells #[.int .u8 c0, .int .u8 c1, .int .u8 c2, .int .u8 c3] 135)).heap[w1.heap.size]? = some (.cells #[.int .u8 c0, .int .u8 c1, .int .u8 c2, .int .u8 c3] 135 (0, 0)) := blk_at
  have hR2 : (w1.alloc (.cells #[.int .u8 c0, .int .u8 c1, .int .u8 c2, .int .u8 c3] 135)).heap[r]? = some (.cells #[.int .u8 0, .int .u8 0, .int .u8 0, .int .u8 0] 135 (0, 0)) := blk_al hR1 _
  have HG2 := Lib.hid (gb_trans HG1.out (World.grownBy_alloc w1 (.cells #[.int .u8 c0, .int .u8 c1, .int .u8 c2, .int .u8 c3] 135) none))
  obtain ⟨q, hq'⟩ : ∃ q, w1.heap.size = q := ⟨_, rfl⟩
  rw [hq'] at hC hlt HCW ⊢
  generalize w1.alloc (.cells #[.int .u8 c0, .int .u8 c1, .int .u8 c2, .int .u8 c3] 135) = w2 at hC hR2 HG2 ⊢
  clear hR1 HG1 hq'
  have p0 : w2.cell? ⟨q, 0, none⟩ = some (.int .u8 c0) := blk_cell hC 0
  have pf0 := blk_free hC 0
  have p1 : w2.cell? ⟨q, 1, none⟩ = some (.int .u8 c1) := blk_cell hC 1
  have pf1 := blk_free hC 1
  have p2 : w2.cell? ⟨q, 2, none⟩ = some (.int .u8 c2) := blk_cell hC 2
  have pf2 := blk_free hC 2
  have p3 : w2.cell? ⟨q, 3, none⟩ = some (.int .u8 c3) := blk_cell hC 3
  have pf3 := blk_free hC 3
  have r0 : w2.cell? ⟨r, 0, none⟩ = some (.int .u8 0) := blk_cell hR2 0
  have rf0 := blk_free hR2 0
  have r1 : w2.cell? ⟨r, 1, none⟩ = some (.int .u8 0) := blk_cell hR2 1
  have rf1 := blk_free hR2 1
  have r2 : w2.cell? ⟨r, 2, none⟩ = some (.int .u8 0) := blk_cell hR2 2
  have rf2 := blk_free hR2 2
  have r3 : w2.cell? ⟨r, 3, none⟩ = some (.int .u8 0) := blk_cell hR2 3
  have rf3 := blk_free hR2 3
  have n1 : r ≠ q := by omega
  have n2 : q ≠ r := by omega
  have l1 := blk_lt hC
  have l2 := blk_lt hR2
  clear hC hR2 hlt KK KE
  go_wp2
  refine bodyPost_ret (v := .agg #[.int .u8 c0, .int .u8 c1, .int .u8 c2, .int .u8 c3]) (by simp only [results, Tryz.results106]; go_simp) rfl ⟨rfl, ?_⟩
  have h1 := HRW.out
  have h2 := HCW.out
  repeat' first | with_reducible exact HG2.out | with_reducible refine gb_own ?_ (by omega) (gb_set _ _ _ _) | with_reducible refine gb_trans ?_ (gb_drew _ _) | with_reducible refine gb_trans ?_ (World.grownBy_alloc _ _ _)

set_option maxRecDepth 100000 in
set_option maxHeartbeats 2000000 in
theorem rcolor_32_0 (s z : ByteArray) (o : Nat) (W : World) (hz : s.extract o s.size = z) (ho : o + 4 ≤ s.size) (hm : s.size ≤ 9223372036854775807) :
    Calls Tryz.prog 106 #[.string z, .int .i64 32, .int .i64 0] W fun e w' => e = .returned (.agg #[.int .u8 (entAt 3 s o 0), .int .u8 (entAt 3 s o 1), .int .u8 (entAt 3 s o 2), .int .u8 (pxA 32 0 s o)]) ∧ W.grownBy w' none := by
  have hzs : z.size = s.size - o := by rw [← hz, ByteArray.size_extract]; omega
  have KE0 : ∀ u, Calls Tryz.prog 105 #[.string z, .int .i64 5] u fun e w' => e = .returned (.agg #[.int .u8 (entAt 3 s o 0), .int .u8 (entAt 3 s o 1), .int .u8 (entAt 3 s o 2), .int .u8 (entAt 3 s o 3)]) ∧ u.grownBy w' none := fun u => rentry_five z _ _ _ _ u (by omega) (by omega) (bt_cut s z o s.size 0 hz (by omega) (by omega)) (bt_cut s z o s.size 1 hz (by omega) (by omega)) (bt_cut s z o s.size 2 hz (by omega) (by omega)) (bt_cut s z o s.size 3 hz (by omega) (by omega))
  obtain ⟨c0, e0⟩ : ∃ c, entAt 3 s o 0 = c := ⟨_, rfl⟩
  obtain ⟨c1, e1⟩ : ∃ c, entAt 3 s o 1 = c := ⟨_, rfl⟩
  obtain ⟨c2, e2⟩ : ∃ c, entAt 3 s o 2 = c := ⟨_, rfl⟩
  obtain ⟨c3, e3⟩ : ∃ c, entAt 3 s o 3 = c := ⟨_, rfl⟩
  simp only [e0, e1, e2, e3] at KE0
  rw [e0, e1, e2]
  have KE := Lib.hid KE0
  have KK := Lib.hid (fun u => rk_32 u)
  clear KE0
  have hA : pxA 32 0 s o = 255 := by unfold pxA pxT; simp
  rw [hA]
  clear e0 e1 e2 e3 hA hz
  go_enter Tryz.func106, Tryz.ntmps106
  go_wp2_with fail
  have hR : (W.alloc (.cells #[.int .u8 0, .int .u8 0, .int .u8 0, .int .u8 0] 135)).heap[W.heap.size]? = some (.cells #[.int .u8 0, .int .u8 0, .int .u8 0, .int .u8 0] 135 (0, 0)) := blk_at
  have hG := World.grownBy_alloc W (.cells #[.int .u8 0, .int .u8 0, .int .u8 0, .int .u8 0] 135) none
  obtain ⟨r, hr⟩ : ∃ r, W.heap.size = r := ⟨_, rfl⟩
  have hrs := size_alloc W (.cells #[.int .u8 0, .int .u8 0, .int .u8 0, .int .u8 0] 135)
  rw [hr] at hR hrs ⊢
  have HRW := Lib.hid hr
  generalize W.alloc (.cells #[.int .u8 0, .int .u8 0, .int .u8 0, .int .u8 0] 135) = w0 at hR hG hrs ⊢
  have HR := Lib.hid hR
  have HG := Lib.hid hG
  have HRS := Lib.hid hrs
  clear hR hG hr hrs
  refine (KK.out _).mono ?_
  rintro e w' ⟨rfl, rfl⟩
  go_wp2_with fail
  refine (KE.out _).mono ?_
  rintro e w1 ⟨rfl, g1⟩
  have hR1 := old0 g1 HR.out (blk_lt HR.out) (by simp)
  have hlt := blk_lt hR1
  have HG1 := Lib.hid (gb_trans HG.out g1)
  have HCW := Lib.hid (show W.heap.size ≤ w1.heap.size from (gb_trans HG.out g1).size)
  clear g1 HR HG
  go_upto_region 2 with fail
  have hC : (w1.alloc (.cells #[.int .u8 c0, .int .u8 c1, .int .u8 c2, .int .u8 c3] 135)).heap[w1.heap.size]? = some (.cells #[.int .u8 c0, .int .u8 c1, .int .u8 c2, .int .u8 c3] 135 (0, 0)) := blk_at
  have hR2 : (w1.alloc (.cells #[.int .u8 c0, .int .u8 c1, .int .u8 c2, .int .u8 c3] 135)).heap[r]? = some (.cells #[.int .u8 0, .int .u8 0, .int .u8 0, .int .u8 0] 135 (0, 0)) := blk_al hR1 _
  have HG2 := Lib.hid (gb_trans HG1.out (World.grownBy_alloc w1 (.cells #[.int .u8 c0, .int .u8 c1, .int .u8 c2, .int .u8 c3] 135) none))
  obtain ⟨q, hq'⟩ : ∃ q, w1.heap.size = q := ⟨_, rfl⟩
  rw [hq'] at hC hlt HCW ⊢
  generalize w1.alloc (.cells #[.int .u8 c0, .int .u8 c1, .int .u8 c2, .int .u8 c3] 135) = w2 at hC hR2 HG2 ⊢
  clear hR1 HG1 hq'
  have p0 : w2.cell? ⟨q, 0, none⟩ = some (.int .u8 c0) := blk_cell hC 0
  have pf0 := blk_free hC 0
  have p1 : w2.cell? ⟨q, 1, none⟩ = some (.int .u8 c1) := blk_cell hC 1
  have pf1 := blk_free hC 1
  have p2 : w2.cell? ⟨q, 2, none⟩ = some (.int .u8 c2) := blk_cell hC 2
  have pf2 := blk_free hC 2
  have p3 : w2.cell? ⟨q, 3, none⟩ = some (.int .u8 c3) := blk_cell hC 3
  have pf3 := blk_free hC 3
  have r0 : w2.cell? ⟨r, 0, none⟩ = some (.int .u8 0) := blk_cell hR2 0
  have rf0 := blk_free hR2 0
  have r1 : w2.cell? ⟨r, 1, none⟩ = some (.int .u8 0) := blk_cell hR2 1
  have rf1 := blk_free hR2 1
  have r2 : w2.cell? ⟨r, 2, none⟩ = some (.int .u8 0) := blk_cell hR2 2
  have rf2 := blk_free hR2 2
  have r3 : w2.cell? ⟨r, 3, none⟩ = some (.int .u8 0) := blk_cell hR2 3
  have rf3 := blk_free hR2 3
  have n1 : r ≠ q := by omega
  have n2 : q ≠ r := by omega
  have l1 := blk_lt hC
  have l2 := blk_lt hR2
  clear hC hR2 hlt KK KE
  go_wp2
  refine bodyPost_ret (v := .agg #[.int .u8 c0, .int .u8 c1, .int .u8 c2, .int .u8 255]) (by simp only [results, Tryz.results106]; go_simp) rfl ⟨rfl, ?_⟩
  have h1 := HRW.out
  have h2 := HCW.out
  repeat' first | with_reducible exact HG2.out | with_reducible refine gb_own ?_ (by omega) (gb_set _ _ _ _) | with_reducible refine gb_trans ?_ (gb_drew _ _) | with_reducible refine gb_trans ?_ (World.grownBy_alloc _ _ _)

set_option maxRecDepth 100000 in
set_option maxHeartbeats 2000000 in
theorem rcolor_32_8 (s z : ByteArray) (o : Nat) (W : World) (hz : s.extract o s.size = z) (ho : o + 4 ≤ s.size) (hm : s.size ≤ 9223372036854775807) :
    Calls Tryz.prog 106 #[.string z, .int .i64 32, .int .i64 8] W fun e w' => e = .returned (.agg #[.int .u8 (entAt 3 s o 0), .int .u8 (entAt 3 s o 1), .int .u8 (entAt 3 s o 2), .int .u8 (pxA 32 8 s o)]) ∧ W.grownBy w' none := by
  have hzs : z.size = s.size - o := by rw [← hz, ByteArray.size_extract]; omega
  have KE0 : ∀ u, Calls Tryz.prog 105 #[.string z, .int .i64 5] u fun e w' => e = .returned (.agg #[.int .u8 (entAt 3 s o 0), .int .u8 (entAt 3 s o 1), .int .u8 (entAt 3 s o 2), .int .u8 (entAt 3 s o 3)]) ∧ u.grownBy w' none := fun u => rentry_five z _ _ _ _ u (by omega) (by omega) (bt_cut s z o s.size 0 hz (by omega) (by omega)) (bt_cut s z o s.size 1 hz (by omega) (by omega)) (bt_cut s z o s.size 2 hz (by omega) (by omega)) (bt_cut s z o s.size 3 hz (by omega) (by omega))
  obtain ⟨c0, e0⟩ : ∃ c, entAt 3 s o 0 = c := ⟨_, rfl⟩
  obtain ⟨c1, e1⟩ : ∃ c, entAt 3 s o 1 = c := ⟨_, rfl⟩
  obtain ⟨c2, e2⟩ : ∃ c, entAt 3 s o 2 = c := ⟨_, rfl⟩
  obtain ⟨c3, e3⟩ : ∃ c, entAt 3 s o 3 = c := ⟨_, rfl⟩
  simp only [e0, e1, e2, e3] at KE0
  rw [e0, e1, e2]
  have KE := Lib.hid KE0
  have KK := Lib.hid (fun u => rk_32 u)
  clear KE0
  have hA : pxA 32 8 s o = entAt 3 s o 3 := by unfold pxA pxT; simp
  rw [hA, e3]
  clear e0 e1 e2 e3 hA hz
  go_enter Tryz.func106, Tryz.ntmps106
  go_wp2_with fail
  have hR : (W.alloc (.cells #[.int .u8 0, .int .u8 0, .int .u8 0, .int .u8 0] 135)).heap[W.heap.size]? = some (.cells #[.int .u8 0, .int .u8 0, .int .u8 0, .int .u8 0] 135 (0, 0)) := blk_at
  have hG := World.grownBy_alloc W (.cells #[.int .u8 0, .int .u8 0, .int .u8 0, .int .u8 0] 135) none
  obtain ⟨r, hr⟩ : ∃ r, W.heap.size = r := ⟨_, rfl⟩
  have hrs := size_alloc W (.cells #[.int .u8 0, .int .u8 0, .int .u8 0, .int .u8 0] 135)
  rw [hr] at hR hrs ⊢
  have HRW := Lib.hid hr
  generalize W.alloc (.cells #[.int .u8 0, .int .u8 0, .int .u8 0, .int .u8 0] 135) = w0 at hR hG hrs ⊢
  have HR := Lib.hid hR
  have HG := Lib.hid hG
  have HRS := Lib.hid hrs
  clear hR hG hr hrs
  refine (KK.out _).mono ?_
  rintro e w' ⟨rfl, rfl⟩
  go_wp2_with fail
  refine (KE.out _).mono ?_
  rintro e w1 ⟨rfl, g1⟩
  have hR1 := old0 g1 HR.out (blk_lt HR.out) (by simp)
  have hlt := blk_lt hR1
  have HG1 := Lib.hid (gb_trans HG.out g1)
  have HCW := Lib.hid (show W.heap.size ≤ w1.heap.size from (gb_trans HG.out g1).size)
  clear g1 HR HG
  go_upto_region 2 with fail
  have hC : (w1.alloc (.cells #[.int .u8 c0, .int .u8 c1, .int .u8 c2, .int .u8 c3] 135)).heap[w1.heap.size]? = some (.cells #[.int .u8 c0, .int .u8 c1, .int .u8 c2, .int .u8 c3] 135 (0, 0)) := blk_at
  have hR2 : (w1.alloc (.cells #[.int .u8 c0, .int .u8 c1, .int .u8 c2, .int .u8 c3] 135)).heap[r]? = some (.cells #[.int .u8 0, .int .u8 0, .int .u8 0, .int .u8 0] 135 (0, 0)) := blk_al hR1 _
  have HG2 := Lib.hid (gb_trans HG1.out (World.grownBy_alloc w1 (.cells #[.int .u8 c0, .int .u8 c1, .int .u8 c2, .int .u8 c3] 135) none))
  obtain ⟨q, hq'⟩ : ∃ q, w1.heap.size = q := ⟨_, rfl⟩
  rw [hq'] at hC hlt HCW ⊢
  generalize w1.alloc (.cells #[.int .u8 c0, .int .u8 c1, .int .u8 c2, .int .u8 c3] 135) = w2 at hC hR2 HG2 ⊢
  clear hR1 HG1 hq'
  have p0 : w2.cell? ⟨q, 0, none⟩ = some (.int .u8 c0) := blk_cell hC 0
  have pf0 := blk_free hC 0
  have p1 : w2.cell? ⟨q, 1, none⟩ = some (.int .u8 c1) := blk_cell hC 1
  have pf1 := blk_free hC 1
  have p2 : w2.cell? ⟨q, 2, none⟩ = some (.int .u8 c2) := blk_cell hC 2
  have pf2 := blk_free hC 2
  have p3 : w2.cell? ⟨q, 3, none⟩ = some (.int .u8 c3) := blk_cell hC 3
  have pf3 := blk_free hC 3
  have r0 : w2.cell? ⟨r, 0, none⟩ = some (.int .u8 0) := blk_cell hR2 0
  have rf0 := blk_free hR2 0
  have r1 : w2.cell? ⟨r, 1, none⟩ = some (.int .u8 0) := blk_cell hR2 1
  have rf1 := blk_free hR2 1
  have r2 : w2.cell? ⟨r, 2, none⟩ = some (.int .u8 0) := blk_cell hR2 2
  have rf2 := blk_free hR2 2
  have r3 : w2.cell? ⟨r, 3, none⟩ = some (.int .u8 0) := blk_cell hR2 3
  have rf3 := blk_free hR2 3
  have n1 : r ≠ q := by omega
  have n2 : q ≠ r := by omega
  have l1 := blk_lt hC
  have l2 := blk_lt hR2
  clear hC hR2 hlt KK KE
  go_wp2
  refine bodyPost_ret (v := .agg #[.int .u8 c0, .int .u8 c1, .int .u8 c2, .int .u8 c3]) (by simp only [results, Tryz.results106]; go_simp) rfl ⟨rfl, ?_⟩
  have h1 := HRW.out
  have h2 := HCW.out
  repeat' first | with_reducible exact HG2.out | with_reducible refine gb_own ?_ (by omega) (gb_set _ _ _ _) | with_reducible refine gb_trans ?_ (gb_drew _ _) | with_reducible refine gb_trans ?_ (World.grownBy_alloc _ _ _)

end Go.Proofs.YtnieeckdldpebaaGreat.Tp
