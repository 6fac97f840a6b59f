/- Texts of one kind, one behind the other: Tp7. -/
import Derived.Test.YtnieeckdldpebaaGreatG26
import Derived.Test.YtnieeckdldpebaaGreatG30
/- Layer 17: a map's entries, walked (written by wip/gen/tp7.py). -/
namespace Go.Proofs.YtnieeckdldpebaaGreat.Tp
open Go.ChangeShapes Go.WideShapes Go.ChangeAt Go.RowKit
open Go.Proofs.YtnieeckdldpebaaGreat.Sc Go.Proofs.YtnieeckdldpebaaGreat.Le Go.Proofs.YtnieeckdldpebaaGreat.Pa Go.Proofs.YtnieeckdldpebaaGreat.Tg
set_option linter.unusedVariables false

/-- The blocks of a call: its head, a fault not written yet. -/
structure MZ (hb : Nat) (n0 n3 n4 n5 n6 n7 n8 n9 : Int) (x2 : Nat) (mp lf tp : Bool) (w : World) : Prop where
  h : w.heap[hb]? = some (.cells #[.int .i64 n0, .bool mp, .int .i64 x2, .int .i64 n3, .int .i64 n4, .int .i64 n5, .int .i64 n6, .int .i64 n7, .int .i64 n8, .int .i64 n9, .bool lf, .bool tp] 55 (0, 0))
  f : w.heap[hb + 1]? = some (.cells #[.int .i64 0, .int .i64 0, .int .i64 0] 29 (0, 0))
theorem MZ.turned {hb : Nat} {n0 n3 n4 n5 n6 n7 n8 n9 : Int} {x2 : Nat} {mp lf tp : Bool} {w w' : World} {S : List Nat} (h : MZ hb n0 n3 n4 n5 n6 n7 n8 n9 x2 mp lf tp w) (k : Tn w w' S) (h0 : hb ∉ S) (h1 : hb + 1 ∉ S) : MZ hb n0 n3 n4 n5 n6 n7 n8 n9 x2 mp lf tp w' :=
  ⟨(k.block _ (blk_lt h.h) h0).trans h.h, (k.block _ (blk_lt h.f) h1).trans h.f⟩

theorem po_oth {p b l g n most : Nat} {S : ByteArray} {w : World} {k i : Nat} {v : Value} (h : Po p b l g n most S w) (hp : p ≠ k) (hb : b ≠ k) (hg : g ≠ k) : Po p b l g n most S (w.setCell ⟨k, i, none⟩ v) :=
  Rg.po_turned h (Tn.set w k i v (List.mem_singleton.2 rfl)) (by simpa using hp) (by simpa using hb) (by simpa using hg)
theorem po_dr {p b l g n most : Nat} {S : ByteArray} {w : World} (h : Po p b l g n most S w) : Po p b l g n most S w.drew := h.grown (gb_drew _ none) (by simp) (by simp) (by simp)
theorem po_al {p b l g n most : Nat} {S : ByteArray} {w : World} {o : Obj} (h : Po p b l g n most S w) : Po p b l g n most S (w.alloc o) := h.grown (World.grownBy_alloc _ _ none) (by simp) (by simp) (by simp)

/-- What comes of entries that are all there. -/
def EY (W : World) (b l : Nat) (s : ByteArray) (o f t sz cnt : Nat) (Y : St) (D : Nat → Nat → Int) (e : Ending) (w' : World) : Prop :=
  ∃ p q g S, e = .returned (.tuple #[.pointer (some ⟨p, 0, none⟩), .agg #[.int .i64 0, .int .i64 0, .int .i64 0]]) ∧ (Po p q l g cnt cnt S w' ∧ EntOf S cnt D ∧ Led l (Rg.wk Y cnt).ls w' ∧ Sr.So b l s (o + cnt * sz) f t w') ∧ Tn W w' [b, l] ∧ W.heap.size ≤ p ∧ W.heap.size ≤ q ∧ W.heap.size ≤ g
/-- What comes of entries of which K are there, and no more. -/
def ES (W : World) (b l : Nat) (s : ByteArray) (o f t sz cnt K : Nat) (Y : St) (k a : Int) (e : Ending) (w' : World) : Prop :=
  e = .returned (.tuple #[.pointer none, .agg #[.int .i64 k, .int .i64 2, .int .i64 a]]) ∧ (Led l ((Rg.wk Y (K + 1)).give ((4 * cnt : Nat) : Int)).1.ls w' ∧ Sr.So b l s (o + K * sz) f t w') ∧ Tn W w' [b, l]
/-- The code's Read of a map's entries. -/
def KR (b l : Nat) (s : ByteArray) (o f t sz cnt K : Nat) (kd : Int) (Y : St) (D : Nat → Nat → Int) : Prop :=
  ∀ p q g S u, Po p q l g 0 cnt S u → Sr.So b l s o f t u → Led l Y.ls u → b ≠ p → b ≠ q → b ≠ g → Calls Tryz.prog 126 #[.pointer (some ⟨p, 0, none⟩), .pointer (some ⟨b, 0, none⟩), .int .i64 cnt, .int .i64 kd] u (Rg.ReadPost u p q l g b 0 cnt s o f t sz cnt K Y D)

set_option maxRecDepth 100000 in
set_option maxHeartbeats 2000000 in
theorem entries_yes (n0 n3 n5 n6 n7 n8 n9 : Int) (cnt x2 : Nat) (mp lf tp : Bool) (b l : Nat) (s : ByteArray) (o f t sz K : Nat) (x : St) (kd : Int) (D : Nat → Nat → Int) (W : World) (h : Sr.So b l s o f t W) (hl : Led l x.ls W) (ok : x.Ok) (c1 : 1 ≤ cnt) (c2 : cnt ≤ 65535)
    (hn : (x.take ((4 * cnt : Nat) : Int)).2 = true) (KE0 : ∀ u, Calls Tryz.prog 101 #[.int .i64 n5] u fun e w' => e = .returned (.int .i64 kd) ∧ u = w') (KR0 : KR b l s o f t sz cnt cnt kd ((x.take ((4 * cnt : Nat) : Int)).1) D) :
    Calls Tryz.prog 99 #[.pointer (some ⟨b, 0, none⟩), .agg #[.int .i64 n0, .bool mp, .int .i64 x2, .int .i64 n3, .int .i64 cnt, .int .i64 n5, .int .i64 n6, .int .i64 n7, .int .i64 n8, .int .i64 n9, .bool lf, .bool tp]] W (EY W b l s o f t sz cnt ((x.take ((4 * cnt : Nat) : Int)).1) D) := by
  have hblt := h.lt
  have hllt := hl.lt
  have hbl := h.bl
  have HS := Lib.hid h
  have HL := Lib.hid hl
  have KE := Lib.hid KE0
  have KRd := Lib.hid KR0
  have KL := Lib.hid (fun u (hu : Sr.So b l s o f t u) => Sr.ledger_calls b l s o f t u hu)
  have KN := Lib.hid (fun u (hu : Led l x.ls u) => new_yes l x cnt u hu ok c1 (by omega) hn)
  obtain ⟨Y, hY⟩ : ∃ Y, (x.take ((4 * cnt : Nat) : Int)).1 = Y := ⟨_, rfl⟩
  have oky : Y.Ok := hY ▸ ok.take _
  rw [hY] at KRd KN ⊢
  have HYO := Lib.hid oky
  clear h hl ok hn KE0 KR0 hY oky
  go_enter Tryz.func99, Tryz.ntmps99
  go_wp2_with fail
  have hH : ((W.alloc (.cells #[.int .i64 n0, .bool mp, .int .i64 x2, .int .i64 n3, .int .i64 cnt, .int .i64 n5, .int .i64 n6, .int .i64 n7, .int .i64 n8, .int .i64 n9, .bool lf, .bool tp] 55)).alloc (.cells #[.int .i64 0, .int .i64 0, .int .i64 0] 29)).heap[W.heap.size]? = some (.cells #[.int .i64 n0, .bool mp, .int .i64 x2, .int .i64 n3, .int .i64 cnt, .int .i64 n5, .int .i64 n6, .int .i64 n7, .int .i64 n8, .int .i64 n9, .bool lf, .bool tp] 55 (0, 0)) := blk_al blk_at _
  have hR : ((W.alloc (.cells #[.int .i64 n0, .bool mp, .int .i64 x2, .int .i64 n3, .int .i64 cnt, .int .i64 n5, .int .i64 n6, .int .i64 n7, .int .i64 n8, .int .i64 n9, .bool lf, .bool tp] 55)).alloc (.cells #[.int .i64 0, .int .i64 0, .int .i64 0] 29)).heap[W.heap.size + 1]? = some (.cells #[.int .i64 0, .int .i64 0, .int .i64 0] 29 (0, 0)) := by rw [← size_alloc W (.cells #[.int .i64 n0, .bool mp, .int .i64 x2, .int .i64 n3, .int .i64 cnt, .int .i64 n5, .int .i64 n6, .int .i64 n7, .int .i64 n8, .int .i64 n9, .bool lf, .bool tp] 55)]; exact blk_at
  have hG : W.grownBy ((W.alloc (.cells #[.int .i64 n0, .bool mp, .int .i64 x2, .int .i64 n3, .int .i64 cnt, .int .i64 n5, .int .i64 n6, .int .i64 n7, .int .i64 n8, .int .i64 n9, .bool lf, .bool tp] 55)).alloc (.cells #[.int .i64 0, .int .i64 0, .int .i64 0] 29)) none := gb_trans (World.grownBy_alloc _ _ _) (World.grownBy_alloc _ _ _)
  obtain ⟨hb, hhb⟩ : ∃ r, W.heap.size = r := ⟨_, rfl⟩
  rw [hhb] at hH hR hblt hllt ⊢
  have HHB := Lib.hid hhb
  generalize (W.alloc (.cells #[.int .i64 n0, .bool mp, .int .i64 x2, .int .i64 n3, .int .i64 cnt, .int .i64 n5, .int .i64 n6, .int .i64 n7, .int .i64 n8, .int .i64 n9, .bool lf, .bool tp] 55)).alloc (.cells #[.int .i64 0, .int .i64 0, .int .i64 0] 29) = w0 at hH hR hG ⊢
  have HM := Lib.hid (show MZ hb n0 n3 (cnt : Nat) n5 n6 n7 n8 n9 x2 mp lf tp w0 from ⟨hH, hR⟩)
  have HG := Lib.hid hG
  have HS0 := Lib.hid (HS.out.grown hG (by simp))
  have HL0 := Lib.hid (HL.out.grown hG (by simp))
  have hl0 := blk_lt hH
  have hl1 := blk_lt hR
  clear hH hR hG hhb HS HL
  have h0 : w0.cell? ⟨hb, 0, none⟩ = some (.int .i64 n0) := blk_cell HM.out.h 0
  have h1 : w0.cell? ⟨hb, 1, none⟩ = some (.bool mp) := blk_cell HM.out.h 1
  have h2 : w0.cell? ⟨hb, 2, none⟩ = some (.int .i64 x2) := blk_cell HM.out.h 2
  have h3 : w0.cell? ⟨hb, 3, none⟩ = some (.int .i64 n3) := blk_cell HM.out.h 3
  have h4 : w0.cell? ⟨hb, 4, none⟩ = some (.int .i64 cnt) := blk_cell HM.out.h 4
  have h5 : w0.cell? ⟨hb, 5, none⟩ = some (.int .i64 n5) := blk_cell HM.out.h 5
  have h6 : w0.cell? ⟨hb, 6, none⟩ = some (.int .i64 n6) := blk_cell HM.out.h 6
  have h7 : w0.cell? ⟨hb, 7, none⟩ = some (.int .i64 n7) := blk_cell HM.out.h 7
  have h8 : w0.cell? ⟨hb, 8, none⟩ = some (.int .i64 n8) := blk_cell HM.out.h 8
  have h9 : w0.cell? ⟨hb, 9, none⟩ = some (.int .i64 n9) := blk_cell HM.out.h 9
  have h10 : w0.cell? ⟨hb, 10, none⟩ = some (.bool lf) := blk_cell HM.out.h 10
  have h11 : w0.cell? ⟨hb, 11, none⟩ = some (.bool tp) := blk_cell HM.out.h 11
  go_region_with (first
    | (go_at_call 28; refine (KL.out _ (by first | exact HS0.out | exact so_dr HS0.out)).mono ?_; rintro e w' ⟨rfl, rfl⟩)
    | (go_at_call 124; refine (KN.out _ (by first | exact HL0.out | exact led_dr HL0.out)).mono ?_; rintro e w1 ⟨p, q, g, rfl, ⟨hp1, hq1, hl1'⟩, g1, gp, gq, gg, npq, npg⟩))
  all_goals
    have gp' : hb + 2 ≤ p := by have h1 : w0.heap.size ≤ p := gp; omega
    have gq' : hb + 2 ≤ q := by have h1 : w0.heap.size ≤ q := gq; omega
    have gg' : hb + 2 ≤ g := by have h1 : w0.heap.size ≤ g := gg; omega
    have HT1 := Lib.hid (show Tn W w1 [b, l] from by first | exact (Tn.gb HG.out (by simp)).trans (Tn.gb g1 (by simp)) | exact (Tn.dr (Tn.gb HG.out (by simp))).trans (Tn.gb g1 (by simp)))
    have HM1 := Lib.hid (show MZ hb n0 n3 (cnt : Nat) n5 n6 n7 n8 n9 x2 mp lf tp w1 from by first | exact HM.out.turned (Tn.gb g1 (S := [l]) (by simp)) (by simp; omega) (by simp; omega) | exact (show MZ hb n0 n3 (cnt : Nat) n5 n6 n7 n8 n9 x2 mp lf tp w0.drew from ⟨HM.out.h, HM.out.f⟩).turned (Tn.gb g1 (S := [l]) (by simp)) (by simp; omega) (by simp; omega))
    have HS1 := Lib.hid (show Sr.So b l s o f t w1 from by first | exact HS0.out.grown g1 (by simpa using hbl) | exact (so_dr HS0.out).grown g1 (by simpa using hbl))
    have HPO := Lib.hid (show Po p q l g 0 cnt (Bu.rep 0 (4 * cnt)) w1 from ⟨hp1, hq1, by rw [Bu.rep_size], by omega, by omega, npq, by omega, npg⟩)
    have HL1 := Lib.hid hl1'
    clear g1 gp gq gg hp1 hq1 hl1' HM HG HS0 HL0 hl0 hl1 h0 h1 h2 h3 h4 h5 h6 h7 h8 h9 h10 h11
    have h0 : w1.cell? ⟨hb, 0, none⟩ = some (.int .i64 n0) := blk_cell HM1.out.h 0
    have h1 : w1.cell? ⟨hb, 1, none⟩ = some (.bool mp) := blk_cell HM1.out.h 1
    have h2 : w1.cell? ⟨hb, 2, none⟩ = some (.int .i64 x2) := blk_cell HM1.out.h 2
    have h3 : w1.cell? ⟨hb, 3, none⟩ = some (.int .i64 n3) := blk_cell HM1.out.h 3
    have h4 : w1.cell? ⟨hb, 4, none⟩ = some (.int .i64 cnt) := blk_cell HM1.out.h 4
    have h5 : w1.cell? ⟨hb, 5, none⟩ = some (.int .i64 n5) := blk_cell HM1.out.h 5
    have h6 : w1.cell? ⟨hb, 6, none⟩ = some (.int .i64 n6) := blk_cell HM1.out.h 6
    have h7 : w1.cell? ⟨hb, 7, none⟩ = some (.int .i64 n7) := blk_cell HM1.out.h 7
    have h8 : w1.cell? ⟨hb, 8, none⟩ = some (.int .i64 n8) := blk_cell HM1.out.h 8
    have h9 : w1.cell? ⟨hb, 9, none⟩ = some (.int .i64 n9) := blk_cell HM1.out.h 9
    have h10 : w1.cell? ⟨hb, 10, none⟩ = some (.bool lf) := blk_cell HM1.out.h 10
    have h11 : w1.cell? ⟨hb, 11, none⟩ = some (.bool tp) := blk_cell HM1.out.h 11
    have hl0 := blk_lt HM1.out.h
    go_wp2_with fail
    go_region_with (first
      | (go_at_call 101; refine (KE.out _).mono ?_; rintro e w' ⟨rfl, rfl⟩)
      | (go_at_call 126; refine (KRd.out p q g (Bu.rep 0 (4 * cnt)) _ (by first | exact HPO.out | exact HPO.out.grown (gb_drew _ none) (by simp) (by simp) (by simp)) (by first | exact HS1.out | exact so_dr HS1.out) (by first | exact HL1.out | exact led_dr HL1.out) (by omega) (by omega) (by omega)).mono ?_; rintro e w2 ⟨he, S', P2, E2, L2, S2, t2⟩; rw [if_pos rfl] at he L2; subst he))
    all_goals
      have HT2 := Lib.hid (show Tn W w2 [b, l] from by first | exact HT1.out.over t2 (by intro y hy; have := HHB.out; simp at hy; simp; omega) | exact (Tn.dr HT1.out).over t2 (by intro y hy; have := HHB.out; simp at hy; simp; omega))
      have HM2 := Lib.hid (show MZ hb n0 n3 (cnt : Nat) n5 n6 n7 n8 n9 x2 mp lf tp w2 from by first | exact HM1.out.turned t2 (by simp; omega) (by simp; omega) | exact (show MZ hb n0 n3 (cnt : Nat) n5 n6 n7 n8 n9 x2 mp lf tp w1.drew from ⟨HM1.out.h, HM1.out.f⟩).turned t2 (by simp; omega) (by simp; omega))
      have HP2 := Lib.hid P2
      have HE2 := Lib.hid E2
      have HL2 := Lib.hid L2
      have HS2 := Lib.hid S2
      clear t2 P2 E2 L2 S2 HM1 HS1 HL1 HPO hl0 h0 h1 h2 h3 h4 h5 h6 h7 h8 h9 h10 h11
      have q0 : w2.cell? ⟨hb + 1, 0, none⟩ = some (.int .i64 0) := blk_cell HM2.out.f 0
      have qf0 := blk_free HM2.out.f 0
      have q1 : w2.cell? ⟨hb + 1, 1, none⟩ = some (.int .i64 0) := blk_cell HM2.out.f 1
      have qf1 := blk_free HM2.out.f 1
      have q2 : w2.cell? ⟨hb + 1, 2, none⟩ = some (.int .i64 0) := blk_cell HM2.out.f 2
      have qf2 := blk_free HM2.out.f 2
      have hlf := blk_lt HM2.out.f
      clear HM2
      go_wp2
      refine bodyPost_ret (v := .tuple #[.pointer (some ⟨p, 0, none⟩), .agg #[.int .i64 0, .int .i64 0, .int .i64 0]]) (by simp only [results, Tryz.results99]; go_simp) rfl ⟨p, q, g, S', rfl, ⟨?_, ?_, ?_, ?_⟩, ?_, ?_⟩
      · have hp2 : Po p q l g cnt cnt S' w2 := by have h := HP2.out; rwa [Nat.zero_add] at h
        repeat' first | with_reducible exact hp2 | with_reducible refine po_oth ?_ (by omega) (by omega) (by omega) | with_reducible refine po_dr ?_ | with_reducible refine po_al ?_
      · have h := HE2.out; rwa [Nat.zero_add] at h
      · repeat' first | with_reducible exact HL2.out | with_reducible refine Led.oth ?_ (by omega) | with_reducible refine led_dr ?_ | with_reducible refine led_al ?_
      · repeat' first | with_reducible exact HS2.out | with_reducible refine so_oth ?_ (by omega) | with_reducible refine so_dr ?_ | with_reducible refine so_al ?_
      · have h1 := HHB.out
        repeat' first | with_reducible exact HT2.out | with_reducible refine tn_own1 ?_ (by omega) | with_reducible refine Tn.dr ?_ | with_reducible refine Tn.al ?_
      · have h1 := HHB.out
        exact ⟨by omega, by omega, by omega⟩

set_option maxRecDepth 100000 in
set_option maxHeartbeats 2000000 in
theorem entries_short (n0 n3 n5 n6 n7 n8 n9 : Int) (cnt x2 : Nat) (mp lf tp : Bool) (b l : Nat) (s : ByteArray) (o f t sz K : Nat) (x : St) (kd : Int) (D : Nat → Nat → Int) (W : World) (h : Sr.So b l s o f t W) (hl : Led l x.ls W) (ok : x.Ok) (c1 : 1 ≤ cnt) (c2 : cnt ≤ 65535)
    (hn : (x.take ((4 * cnt : Nat) : Int)).2 = true) (KE0 : ∀ u, Calls Tryz.prog 101 #[.int .i64 n5] u fun e w' => e = .returned (.int .i64 kd) ∧ u = w') (k a : Int) (hK : K < cnt) (hf : (if ((Rg.wk ((x.take ((4 * cnt : Nat) : Int)).1) (K + 1)).give ((4 * cnt : Nat) : Int)).1.r = 0 then Value.agg #[.int .i64 1, .int .i64 2, .int .i64 t] else .agg #[.int .i64 4, .int .i64 2, .int .i64 ((o + K * sz : Nat) : Int)]) = .agg #[.int .i64 k, .int .i64 2, .int .i64 a]) (KR0 : KR b l s o f t sz cnt K kd ((x.take ((4 * cnt : Nat) : Int)).1) D) :
    Calls Tryz.prog 99 #[.pointer (some ⟨b, 0, none⟩), .agg #[.int .i64 n0, .bool mp, .int .i64 x2, .int .i64 n3, .int .i64 cnt, .int .i64 n5, .int .i64 n6, .int .i64 n7, .int .i64 n8, .int .i64 n9, .bool lf, .bool tp]] W (ES W b l s o f t sz cnt K ((x.take ((4 * cnt : Nat) : Int)).1) k a) := by
  have hblt := h.lt
  have hllt := hl.lt
  have hbl := h.bl
  have HS := Lib.hid h
  have HL := Lib.hid hl
  have KE := Lib.hid KE0
  have KRd := Lib.hid KR0
  have KL := Lib.hid (fun u (hu : Sr.So b l s o f t u) => Sr.ledger_calls b l s o f t u hu)
  have KN := Lib.hid (fun u (hu : Led l x.ls u) => new_yes l x cnt u hu ok c1 (by omega) hn)
  obtain ⟨Y, hY⟩ : ∃ Y, (x.take ((4 * cnt : Nat) : Int)).1 = Y := ⟨_, rfl⟩
  have oky : Y.Ok := hY ▸ ok.take _
  have HKN := Lib.hid (show K ≠ cnt by omega)
  have KFt0 := fun u (hu : Sr.So b l s (o + K * sz) f t u) (hlu : Led l ((Rg.wk (x.take ((4 * cnt : Nat) : Int)).1 (K + 1)).give ((4 * cnt : Nat) : Int)).1.ls u) => Sr.fault_calls b l s (o + K * sz) f t ((Rg.wk (x.take ((4 * cnt : Nat) : Int)).1 (K + 1)).give ((4 * cnt : Nat) : Int)).1 2 u hu hlu
  rw [hf] at KFt0
  have KFt := Lib.hid KFt0
  rw [hY] at KRd KN KFt ⊢
  have HYO := Lib.hid oky
  clear h hl ok hn KE0 KR0 KFt0 hf hK hY oky
  go_enter Tryz.func99, Tryz.ntmps99
  go_wp2_with fail
  have hH : ((W.alloc (.cells #[.int .i64 n0, .bool mp, .int .i64 x2, .int .i64 n3, .int .i64 cnt, .int .i64 n5, .int .i64 n6, .int .i64 n7, .int .i64 n8, .int .i64 n9, .bool lf, .bool tp] 55)).alloc (.cells #[.int .i64 0, .int .i64 0, .int .i64 0] 29)).heap[W.heap.size]? = some (.cells #[.int .i64 n0, .bool mp, .int .i64 x2, .int .i64 n3, .int .i64 cnt, .int .i64 n5, .int .i64 n6, .int .i64 n7, .int .i64 n8, .int .i64 n9, .bool lf, .bool tp] 55 (0, 0)) := blk_al blk_at _
  have hR : ((W.alloc (.cells #[.int .i64 n0, .bool mp, .int .i64 x2, .int .i64 n3, .int .i64 cnt, .int .i64 n5, .int .i64 n6, .int .i64 n7, .int .i64 n8, .int .i64 n9, .bool lf, .bool tp] 55)).alloc (.cells #[.int .i64 0, .int .i64 0, .int .i64 0] 29)).heap[W.heap.size + 1]? = some (.cells #[.int .i64 0, .int .i64 0, .int .i64 0] 29 (0, 0)) := by rw [← size_alloc W (.cells #[.int .i64 n0, .bool mp, .int .i64 x2, .int .i64 n3, .int .i64 cnt, .int .i64 n5, .int .i64 n6, .int .i64 n7, .int .i64 n8, .int .i64 n9, .bool lf, .bool tp] 55)]; exact blk_at
  have hG : W.grownBy ((W.alloc (.cells #[.int .i64 n0, .bool mp, .int .i64 x2, .int .i64 n3, .int .i64 cnt, .int .i64 n5, .int .i64 n6, .int .i64 n7, .int .i64 n8, .int .i64 n9, .bool lf, .bool tp] 55)).alloc (.cells #[.int .i64 0, .int .i64 0, .int .i64 0] 29)) none := gb_trans (World.grownBy_alloc _ _ _) (World.grownBy_alloc _ _ _)
  obtain ⟨hb, hhb⟩ : ∃ r, W.heap.size = r := ⟨_, rfl⟩
  rw [hhb] at hH hR hblt hllt ⊢
  have HHB := Lib.hid hhb
  generalize (W.alloc (.cells #[.int .i64 n0, .bool mp, .int .i64 x2, .int .i64 n3, .int .i64 cnt, .int .i64 n5, .int .i64 n6, .int .i64 n7, .int .i64 n8, .int .i64 n9, .bool lf, .bool tp] 55)).alloc (.cells #[.int .i64 0, .int .i64 0, .int .i64 0] 29) = w0 at hH hR hG ⊢
  have HM := Lib.hid (show MZ hb n0 n3 (cnt : Nat) n5 n6 n7 n8 n9 x2 mp lf tp w0 from ⟨hH, hR⟩)
  have HG := Lib.hid hG
  have HS0 := Lib.hid (HS.out.grown hG (by simp))
  have HL0 := Lib.hid (HL.out.grown hG (by simp))
  have hl0 := blk_lt hH
  have hl1 := blk_lt hR
  clear hH hR hG hhb HS HL
  have h0 : w0.cell? ⟨hb, 0, none⟩ = some (.int .i64 n0) := blk_cell HM.out.h 0
  have h1 : w0.cell? ⟨hb, 1, none⟩ = some (.bool mp) := blk_cell HM.out.h 1
  have h2 : w0.cell? ⟨hb, 2, none⟩ = some (.int .i64 x2) := blk_cell HM.out.h 2
  have h3 : w0.cell? ⟨hb, 3, none⟩ = some (.int .i64 n3) := blk_cell HM.out.h 3
  have h4 : w0.cell? ⟨hb, 4, none⟩ = some (.int .i64 cnt) := blk_cell HM.out.h 4
  have h5 : w0.cell? ⟨hb, 5, none⟩ = some (.int .i64 n5) := blk_cell HM.out.h 5
  have h6 : w0.cell? ⟨hb, 6, none⟩ = some (.int .i64 n6) := blk_cell HM.out.h 6
  have h7 : w0.cell? ⟨hb, 7, none⟩ = some (.int .i64 n7) := blk_cell HM.out.h 7
  have h8 : w0.cell? ⟨hb, 8, none⟩ = some (.int .i64 n8) := blk_cell HM.out.h 8
  have h9 : w0.cell? ⟨hb, 9, none⟩ = some (.int .i64 n9) := blk_cell HM.out.h 9
  have h10 : w0.cell? ⟨hb, 10, none⟩ = some (.bool lf) := blk_cell HM.out.h 10
  have h11 : w0.cell? ⟨hb, 11, none⟩ = some (.bool tp) := blk_cell HM.out.h 11
  go_region_with (first
    | (go_at_call 28; refine (KL.out _ (by first | exact HS0.out | exact so_dr HS0.out)).mono ?_; rintro e w' ⟨rfl, rfl⟩)
    | (go_at_call 124; refine (KN.out _ (by first | exact HL0.out | exact led_dr HL0.out)).mono ?_; rintro e w1 ⟨p, q, g, rfl, ⟨hp1, hq1, hl1'⟩, g1, gp, gq, gg, npq, npg⟩))
  all_goals
    have gp' : hb + 2 ≤ p := by have h1 : w0.heap.size ≤ p := gp; omega
    have gq' : hb + 2 ≤ q := by have h1 : w0.heap.size ≤ q := gq; omega
    have gg' : hb + 2 ≤ g := by have h1 : w0.heap.size ≤ g := gg; omega
    have HT1 := Lib.hid (show Tn W w1 [b, l] from by first | exact (Tn.gb HG.out (by simp)).trans (Tn.gb g1 (by simp)) | exact (Tn.dr (Tn.gb HG.out (by simp))).trans (Tn.gb g1 (by simp)))
    have HM1 := Lib.hid (show MZ hb n0 n3 (cnt : Nat) n5 n6 n7 n8 n9 x2 mp lf tp w1 from by first | exact HM.out.turned (Tn.gb g1 (S := [l]) (by simp)) (by simp; omega) (by simp; omega) | exact (show MZ hb n0 n3 (cnt : Nat) n5 n6 n7 n8 n9 x2 mp lf tp w0.drew from ⟨HM.out.h, HM.out.f⟩).turned (Tn.gb g1 (S := [l]) (by simp)) (by simp; omega) (by simp; omega))
    have HS1 := Lib.hid (show Sr.So b l s o f t w1 from by first | exact HS0.out.grown g1 (by simpa using hbl) | exact (so_dr HS0.out).grown g1 (by simpa using hbl))
    have HPO := Lib.hid (show Po p q l g 0 cnt (Bu.rep 0 (4 * cnt)) w1 from ⟨hp1, hq1, by rw [Bu.rep_size], by omega, by omega, npq, by omega, npg⟩)
    have HL1 := Lib.hid hl1'
    clear g1 gp gq gg hp1 hq1 hl1' HM HG HS0 HL0 hl0 hl1 h0 h1 h2 h3 h4 h5 h6 h7 h8 h9 h10 h11
    have h0 : w1.cell? ⟨hb, 0, none⟩ = some (.int .i64 n0) := blk_cell HM1.out.h 0
    have h1 : w1.cell? ⟨hb, 1, none⟩ = some (.bool mp) := blk_cell HM1.out.h 1
    have h2 : w1.cell? ⟨hb, 2, none⟩ = some (.int .i64 x2) := blk_cell HM1.out.h 2
    have h3 : w1.cell? ⟨hb, 3, none⟩ = some (.int .i64 n3) := blk_cell HM1.out.h 3
    have h4 : w1.cell? ⟨hb, 4, none⟩ = some (.int .i64 cnt) := blk_cell HM1.out.h 4
    have h5 : w1.cell? ⟨hb, 5, none⟩ = some (.int .i64 n5) := blk_cell HM1.out.h 5
    have h6 : w1.cell? ⟨hb, 6, none⟩ = some (.int .i64 n6) := blk_cell HM1.out.h 6
    have h7 : w1.cell? ⟨hb, 7, none⟩ = some (.int .i64 n7) := blk_cell HM1.out.h 7
    have h8 : w1.cell? ⟨hb, 8, none⟩ = some (.int .i64 n8) := blk_cell HM1.out.h 8
    have h9 : w1.cell? ⟨hb, 9, none⟩ = some (.int .i64 n9) := blk_cell HM1.out.h 9
    have h10 : w1.cell? ⟨hb, 10, none⟩ = some (.bool lf) := blk_cell HM1.out.h 10
    have h11 : w1.cell? ⟨hb, 11, none⟩ = some (.bool tp) := blk_cell HM1.out.h 11
    have hl0 := blk_lt HM1.out.h
    go_wp2_with fail
    go_region_with (first
      | (go_at_call 101; refine (KE.out _).mono ?_; rintro e w' ⟨rfl, rfl⟩)
      | (go_at_call 126; refine (KRd.out p q g (Bu.rep 0 (4 * cnt)) _ (by first | exact HPO.out | exact HPO.out.grown (gb_drew _ none) (by simp) (by simp) (by simp)) (by first | exact HS1.out | exact so_dr HS1.out) (by first | exact HL1.out | exact led_dr HL1.out) (by omega) (by omega) (by omega)).mono ?_; rintro e w2 ⟨he, S', P2, E2, L2, S2, t2⟩; rw [if_neg HKN.out] at he L2; subst he))
    all_goals
      have HT2 := Lib.hid (show Tn W w2 [b, l] from by first | exact HT1.out.over t2 (by intro y hy; have := HHB.out; simp at hy; simp; omega) | exact (Tn.dr HT1.out).over t2 (by intro y hy; have := HHB.out; simp at hy; simp; omega))
      have HM2 := Lib.hid (show MZ hb n0 n3 (cnt : Nat) n5 n6 n7 n8 n9 x2 mp lf tp w2 from by first | exact HM1.out.turned t2 (by simp; omega) (by simp; omega) | exact (show MZ hb n0 n3 (cnt : Nat) n5 n6 n7 n8 n9 x2 mp lf tp w1.drew from ⟨HM1.out.h, HM1.out.f⟩).turned t2 (by simp; omega) (by simp; omega))
      have HP2 := Lib.hid P2
      have HE2 := Lib.hid E2
      have HL2 := Lib.hid L2
      have HS2 := Lib.hid S2
      clear t2 P2 E2 L2 S2 HM1 HS1 HL1 HPO hl0 h0 h1 h2 h3 h4 h5 h6 h7 h8 h9 h10 h11
      have hsz := HP2.out.size
      have KFr := Lib.hid (fun u (hu : Po p q l g (0 + K) cnt S' u) (hlu : Led l (Rg.wk Y (K + 1)).ls u) => pfree_yes p q l g (0 + K) cnt S' (Rg.wk Y (K + 1)) u hu hlu (Rg.wk_ok HYO.out _))
      rw [hsz] at KFr
      clear hsz
      have y0 : w2.cell? ⟨hb + 1, 0, none⟩ = some (.int .i64 0) := blk_cell HM2.out.f 0
      have yf0 := blk_free HM2.out.f 0
      have y1 : w2.cell? ⟨hb + 1, 1, none⟩ = some (.int .i64 0) := blk_cell HM2.out.f 1
      have yf1 := blk_free HM2.out.f 1
      have y2 : w2.cell? ⟨hb + 1, 2, none⟩ = some (.int .i64 0) := blk_cell HM2.out.f 2
      have yf2 := blk_free HM2.out.f 2
      have ylf := blk_lt HM2.out.f
      go_wp2_with fail
      refine (KFr.out _ HP2.out HL2.out).mono ?_
      rintro e w3 ⟨rfl, ⟨_, _, L3⟩, t3⟩
      have HL3 := Lib.hid L3
      have HS3 := Lib.hid (HS2.out.turned t3 (by simp; omega))
      have HM3 := Lib.hid (HM2.out.turned t3 (by simp; omega) (by simp; omega))
      have HT3 := Lib.hid (HT2.out.over t3 (by intro y hy; have := HHB.out; simp at hy; simp; omega))
      clear L3 t3 HL2 HS2 HM2 HT2 HP2 HE2 KFr y0 y1 y2 yf0 yf1 yf2 ylf
      have y0 : w3.cell? ⟨hb + 1, 0, none⟩ = some (.int .i64 0) := blk_cell HM3.out.f 0
      have yf0 := blk_free HM3.out.f 0
      have y1 : w3.cell? ⟨hb + 1, 1, none⟩ = some (.int .i64 0) := blk_cell HM3.out.f 1
      have yf1 := blk_free HM3.out.f 1
      have y2 : w3.cell? ⟨hb + 1, 2, none⟩ = some (.int .i64 0) := blk_cell HM3.out.f 2
      have yf2 := blk_free HM3.out.f 2
      have ylf := blk_lt HM3.out.f
      go_wp2_with fail
      refine (KFt.out _ HS3.out HL3.out).mono ?_
      rintro e w4 ⟨rfl, g4⟩
      have HL4 := Lib.hid (HL3.out.grown g4 (by simp))
      have HS4 := Lib.hid (HS3.out.grown g4 (by simp))
      have HM4 := Lib.hid (HM3.out.turned (Tn.gb g4 (S := []) (by simp)) (by simp) (by simp))
      have HT4 := Lib.hid (HT3.out.trans (Tn.gb g4 (by simp)))
      clear g4 HL3 HS3 HM3 HT3 y0 y1 y2 yf0 yf1 yf2 ylf KFt
      have q0 : w4.cell? ⟨hb + 1, 0, none⟩ = some (.int .i64 0) := blk_cell HM4.out.f 0
      have qf0 := blk_free HM4.out.f 0
      have q1 : w4.cell? ⟨hb + 1, 1, none⟩ = some (.int .i64 0) := blk_cell HM4.out.f 1
      have qf1 := blk_free HM4.out.f 1
      have q2 : w4.cell? ⟨hb + 1, 2, none⟩ = some (.int .i64 0) := blk_cell HM4.out.f 2
      have qf2 := blk_free HM4.out.f 2
      have hlf := blk_lt HM4.out.f
      clear HM4
      go_wp2
      refine bodyPost_ret (v := .tuple #[.pointer none, .agg #[.int .i64 k, .int .i64 2, .int .i64 a]]) (by simp only [results, Tryz.results99]; go_simp) rfl ⟨rfl, ⟨?_, ?_⟩, ?_⟩
      · repeat' first | with_reducible exact HL4.out | with_reducible refine Led.oth ?_ (by omega) | with_reducible refine led_dr ?_ | with_reducible refine led_al ?_
      · repeat' first | with_reducible exact HS4.out | with_reducible refine so_oth ?_ (by omega) | with_reducible refine so_dr ?_ | with_reducible refine so_al ?_
      · have h1 := HHB.out
        repeat' first | with_reducible exact HT4.out | with_reducible refine tn_own1 ?_ (by omega) | with_reducible refine Tn.dr ?_ | with_reducible refine Tn.al ?_

end Go.Proofs.YtnieeckdldpebaaGreat.Tp
