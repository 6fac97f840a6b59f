/- Package raster: a pixel's step is refused; the image of a raster; a raster is freed. -/
import Derived.Test.YtjdhlehpoclnjaaGreatRas3
import Derived.Test.YtjdhlehpoclnjaaGreatTok7
import Derived.BigRegion
namespace Go.Proofs.YtjdhlehpoclnjaaGreat.Ra
open Go.ChangeShapes Go.WideShapes Go.ChangeAt Go.RowKit
open Go.Proofs.YtjdhlehpoclnjaaGreat.Le Go.Proofs.YtjdhlehpoclnjaaGreat.Tk
set_option linter.unusedVariables false

theorem tnB {a b : World} {S : List Nat} (h : Bu.Tn a b S) : Tn a b S := ⟨h.os, h.tape, h.output, h.size, h.block⟩

set_option maxRecDepth 100000 in
set_option maxHeartbeats 2000000 in
theorem set_spent (r l c g a b x y p : Nat) (s : ByteArray) (q : St) (p0 p1 p2 p3 : Int) (w : World) (h : Ro r l c g a b s w) (hl : Led l q.ls w) (ok : q.Ok) (hq : (q.work 1).2 = false) (hx : x < a) (hy : y < b) (ha : a ≤ 16384) (hb : b ≤ 16384) (hp : y * a + x = p) :
    Calls Tryz.prog 90 #[.pointer (some ⟨r, 0, none⟩), .int .i64 x, .int .i64 y, .agg #[.int .u8 p0, .int .u8 p1, .int .u8 p2, .int .u8 p3]] w
      fun e w' => e = .returned (.bool false) ∧ (Ro r l c g a b s w' ∧ Led l (q.work 1).1.ls w') ∧ Tn w w' [l, g] := by
  have hlt := h.lt
  have hll := hl.lt
  have hrl := h.rl
  have glt := h.buf.glt
  have hcl := h.buf.bl
  have hgl := h.buf.gl
  have F := fun w h => find_yes r l c g a b x y p s w h hx hy ha hb hp
  have hsz : 4 * p + 4 ≤ s.size := by have := p_lt hx hy hp; have := h.sz; omega
  have W := fun w h => work_calls l q 1 w h ok
  simp only [hq] at W
  obtain ⟨y1, hy1⟩ : ∃ y, (q.work 1).1 = y := ⟨_, rfl⟩
  simp only [hy1] at W ⊢
  obtain ⟨i, hi⟩ : ∃ i, 4 * p = i := ⟨_, rfl⟩
  simp only [hi] at F hsz
  have F' := Lib.hid F
  have W' := Lib.hid W
  have H := Lib.hid h
  have L := Lib.hid hl
  clear F W h hl hq hy1 hi hp ok
  go_enter Tryz.func90, Tryz.ntmps90
  go_wp2_with fail
  refine (F'.out _ (H.out.grown (World.grownBy_alloc _ _ none) (by simp) (by simp) (by simp))).mono ?_
  rintro e w1 ⟨rfl, g1⟩
  have G1 := Lib.hid (gb_trans (World.grownBy_alloc _ _ none) g1)
  have H1 := Lib.hid (H.out.grown G1.out (by simp) (by simp) (by simp))
  have L1 := Lib.hid (L.out.grown G1.out (by simp))
  have c0 : w1.cell? ⟨r, 0, none⟩ = some (.pointer (some ⟨l, 0, none⟩)) := blk_cell H1.out.blk 0
  clear g1
  go_wp2_with fail
  refine (W'.out _ L1.out).mono ?_
  rintro e w2 ⟨rfl, L2, g2⟩
  have H2 := Lib.hid (H1.out.grown g2 (by simpa using hrl) (by simpa using hcl) (by simpa using hgl))
  have HL2 := Lib.hid L2
  have G2 := Lib.hid g2
  clear L2 g2
  go_wp2
  go_ret
  exact ⟨rfl, ⟨H2.out, HL2.out⟩, (Tn.gb G1.out (by simp) : Tn w w1 [l, g]).trans (Tn.gb G2.out (by simp))⟩

/-- The image of an open raster: its bytes are the raster's. -/
theorem image_yes (r l c g a b : Nat) (s : ByteArray) (w : World) (h : Ro r l c g a b s w) :
    Calls Tryz.prog 38 #[.pointer (some ⟨r, 0, none⟩)] w
      fun e w' => e = .returned (.tuple #[.agg #[.int .i64 a, .int .i64 b, .slice (some ⟨g, 0, none⟩) s.size s.size], .bool true]) ∧ w'.heap[g]? = some (.cells (Bu.bys s) 5 (0, 0)) ∧ Tn w w' [c] := by
  have K := Lib.hid (Bu.out_yes c l g s _ (h.buf.grown (World.grownBy_alloc w (.cells #[.int .i64 0, .int .i64 0, .slice none 0 0] 27) none) (by simp) (by simp)))
  have hbg := h.buf.bg
  have hrc := h.rc
  have H0 := h.grown (World.grownBy_alloc w (.cells #[.int .i64 0, .int .i64 0, .slice none 0 0] 27) none) (by simp) (by simp) (by simp)
  have c3 := blk_cell H0.blk 3
  have I0 : (w.alloc (.cells #[.int .i64 0, .int .i64 0, .slice none 0 0] 27)).heap[w.heap.size]? = some (.cells #[.int .i64 0, .int .i64 0, .slice none 0 0] 27 (0, 0)) := blk_at
  have g0 := World.grownBy_alloc w (.cells #[.int .i64 0, .int .i64 0, .slice none 0 0] 27) none
  have rlt := h.lt
  have clt := h.buf.lt
  have glt := h.buf.glt
  have HH0 := Lib.hid H0
  have HI0 := Lib.hid I0
  have HG0 := Lib.hid g0
  obtain ⟨n, hn⟩ : ∃ n, s.size = n := ⟨_, rfl⟩
  rw [hn] at K ⊢
  simp only [RC, List.getElem?_toArray, List.getElem?_cons_succ, List.getElem?_cons_zero] at c3
  clear h H0 I0 g0 hn
  go_enter Tryz.func38, Tryz.ntmps38
  go_wp2_with fail
  generalize w.alloc (.cells #[.int .i64 0, .int .i64 0, .slice none 0 0] 27) = w0 at K HH0 HI0 HG0 c3 ⊢
  refine K.out.mono ?_
  rintro e w1 ⟨rfl, sh, g1⟩
  have hkc : w.heap.size ≠ c := by omega
  have hkg : w.heap.size ≠ g := by omega
  have R1 := (g1.block r HH0.out.lt (by simpa using hrc)).trans HH0.out.blk
  have B1 := (g1.block g HH0.out.buf.glt (by simpa using hbg.symm)).trans HH0.out.buf.byt
  have I1 := (g1.block _ (blk_lt HI0.out) (by simpa using hkc)).trans HI0.out
  have d1 := blk_cell R1 1
  have d2 := blk_cell R1 2
  simp only [RC, List.getElem?_toArray, List.getElem?_cons_succ, List.getElem?_cons_zero] at d1 d2
  have i0 := blk_cell I1 0
  have i1 := blk_cell I1 1
  have i2 := blk_cell I1 2
  have f0 := blk_free I1 0
  have f1 := blk_free I1 1
  have f2 := blk_free I1 2
  simp only [List.getElem?_toArray, List.getElem?_cons_succ, List.getElem?_cons_zero] at i0 i1 i2
  have HB1 := Lib.hid B1
  have HI1 := Lib.hid I1
  have HT1 := Lib.hid (Tn.gb (gb_trans (gb_any HG0.out (some c)) g1) (S := [c]) (by simp))
  clear R1 B1 I1 sh g1 c3 HI0
  go_wp2_with fail
  go_region
  go_wp2
  refine bodyPost_ret (v := .tuple #[.agg #[.int .i64 a, .int .i64 b, .slice (some ⟨g, 0, none⟩) n n], .bool true]) (by simp only [results, Tryz.results38]; go_simp) rfl ⟨rfl, ?_, ?_⟩
  · exact (blk_other (blk_other (blk_other HB1.out hkg.symm) hkg.symm) hkg.symm)
  · exact (Tn.own1 (Tn.own1 (Tn.own1 HT1.out (Nat.le_refl _)) (Nat.le_refl _)) (Nat.le_refl _)).dr

theorem rfree_yes (r l c g a b : Nat) (s : ByteArray) (x : St) (w : World) (h : Ro r l c g a b s w) (hl : Led l x.ls w) (ok : x.Ok) :
    Calls Tryz.prog 45 #[.pointer (some ⟨r, 0, none⟩)] w
      fun e w' => e = .returned (.bool true) ∧ Led l (x.give s.size).1.ls w' ∧ Tn w w' [c, l] := by
  have K := Lib.hid (Bu.free_yes c l g s x w h.buf hl ok)
  have c3 := blk_cell h.blk 3
  simp only [RC, List.getElem?_toArray, List.getElem?_cons_succ, List.getElem?_cons_zero] at c3
  clear h hl ok
  go_enter Tryz.func45, Tryz.ntmps45
  go_wp2_with fail
  refine K.out.mono ?_
  rintro e w1 ⟨rfl, ⟨sh, L⟩, T0⟩
  have T := tnB T0
  have HL := Lib.hid L
  have HT := Lib.hid T
  clear L T T0 sh
  go_wp2
  go_ret
  exact ⟨rfl, HL.out, HT.out⟩

end Go.Proofs.YtjdhlehpoclnjaaGreat.Ra
