/- Texts of one kind, one behind the other: RsB, Rk1. -/
import Derived.BigRegion
import Derived.Test.YtmhghkgcfgacdaaGreatG09
import Derived.Test.YtmhghkgcfgacdaaGreatG11
import Derived.Test.YtmhghkgcfgacdaaGreatG15
/- Package raster: a pixel's step is refused; the image of a raster; a raster is freed. -/
namespace Go.Proofs.YtmhghkgcfgacdaaGreat.Ra
open Go.ChangeShapes Go.WideShapes Go.ChangeAt Go.RowKit
open Go.Proofs.YtmhghkgcfgacdaaGreat.Le Go.Proofs.YtmhghkgcfgacdaaGreat.Tk
set_option linter.unusedVariables false

theorem tnB {a b : World} {S : List Nat} (h : Bu.Tn a b S) : Tn a b S := ⟨h.os, h.tape, h.output, h.size, h.block⟩

set_option maxRecDepth 100000 in
set_option maxHeartbeats 2000000 in
theorem set_spent (r l c g a b x y p : Nat) (s : ByteArray) (q : St) (p0 p1 p2 p3 : Int) (w : World) (h : Ro r l c g a b s w) (hl : Led l q.ls w) (ok : q.Ok) (hq : (q.work 1).2 = false) (hx : x < a) (hy : y < b) (ha : a ≤ 16384) (hb : b ≤ 16384) (hp : y * a + x = p) :
    Calls Tryz.prog 96 #[.pointer (some ⟨r, 0, none⟩), .int .i64 x, .int .i64 y, .agg #[.int .u8 p0, .int .u8 p1, .int .u8 p2, .int .u8 p3]] w
      fun e w' => e = .returned (.bool false) ∧ (Ro r l c g a b s w' ∧ Led l (q.work 1).1.ls w') ∧ Tn w w' [l, g] := by
  have hlt := h.lt
  have hll := hl.lt
  have hrl := h.rl
  have glt := h.buf.glt
  have hcl := h.buf.bl
  have hgl := h.buf.gl
  have F := fun w h => find_yes r l c g a b x y p s w h hx hy ha hb hp
  have hsz : 4 * p + 4 ≤ s.size := by have := p_lt hx hy hp; have := h.sz; omega
  have W := fun w h => work_calls l q 1 w h ok
  simp only [hq] at W
  obtain ⟨y1, hy1⟩ : ∃ y, (q.work 1).1 = y := ⟨_, rfl⟩
  simp only [hy1] at W ⊢
  obtain ⟨i, hi⟩ : ∃ i, 4 * p = i := ⟨_, rfl⟩
  simp only [hi] at F hsz
  have F' := Lib.hid F
  have W' := Lib.hid W
  have H := Lib.hid h
  have L := Lib.hid hl
  clear F W h hl hq hy1 hi hp ok
  go_enter Tryz.func96, Tryz.ntmps96
  go_wp2_with fail
  refine (F'.out _ (H.out.grown (World.grownBy_alloc _ _ none) (by simp) (by simp) (by simp))).mono ?_
  rintro e w1 ⟨rfl, g1⟩
  have G1 := Lib.hid (gb_trans (World.grownBy_alloc _ _ none) g1)
  have H1 := Lib.hid (H.out.grown G1.out (by simp) (by simp) (by simp))
  have L1 := Lib.hid (L.out.grown G1.out (by simp))
  have c0 : w1.cell? ⟨r, 0, none⟩ = some (.pointer (some ⟨l, 0, none⟩)) := blk_cell H1.out.blk 0
  clear g1
  go_wp2_with fail
  refine (W'.out _ L1.out).mono ?_
  rintro e w2 ⟨rfl, L2, g2⟩
  have H2 := Lib.hid (H1.out.grown g2 (by simpa using hrl) (by simpa using hcl) (by simpa using hgl))
  have HL2 := Lib.hid L2
  have G2 := Lib.hid g2
  clear L2 g2
  go_wp2
  go_ret
  exact ⟨rfl, ⟨H2.out, HL2.out⟩, (Tn.gb G1.out (by simp) : Tn w w1 [l, g]).trans (Tn.gb G2.out (by simp))⟩

/-- The image of an open raster: its bytes are the raster's. -/
theorem image_yes (r l c g a b : Nat) (s : ByteArray) (w : World) (h : Ro r l c g a b s w) :
    Calls Tryz.prog 22 #[.pointer (some ⟨r, 0, none⟩)] w
      fun e w' => e = .returned (.tuple #[.agg #[.int .i64 a, .int .i64 b, .slice (some ⟨g, 0, none⟩) s.size s.size], .bool true]) ∧ w'.heap[g]? = some (.cells (Bu.bys s) 5 (0, 0)) ∧ Tn w w' [c] := by
  have K := Lib.hid (Bu.out_yes c l g s _ (h.buf.grown (World.grownBy_alloc w (.cells #[.int .i64 0, .int .i64 0, .slice none 0 0] 27) none) (by simp) (by simp)))
  have hbg := h.buf.bg
  have hrc := h.rc
  have H0 := h.grown (World.grownBy_alloc w (.cells #[.int .i64 0, .int .i64 0, .slice none 0 0] 27) none) (by simp) (by simp) (by simp)
  have c3 := blk_cell H0.blk 3
  have I0 : (w.alloc (.cells #[.int .i64 0, .int .i64 0, .slice none 0 0] 27)).heap[w.heap.size]? = some (.cells #[.int .i64 0, .int .i64 0, .slice none 0 0] 27 (0, 0)) := blk_at
  have g0 := World.grownBy_alloc w (.cells #[.int .i64 0, .int .i64 0, .slice none 0 0] 27) none
  have rlt := h.lt
  have clt := h.buf.lt
  have glt := h.buf.glt
  have HH0 := Lib.hid H0
  have HI0 := Lib.hid I0
  have HG0 := Lib.hid g0
  obtain ⟨n, hn⟩ : ∃ n, s.size = n := ⟨_, rfl⟩
  rw [hn] at K ⊢
  simp only [RC, List.getElem?_toArray, List.getElem?_cons_succ, List.getElem?_cons_zero] at c3
  clear h H0 I0 g0 hn
  go_enter Tryz.func22, Tryz.ntmps22
  go_wp2_with fail
  generalize w.alloc (.cells #[.int .i64 0, .int .i64 0, .slice none 0 0] 27) = w0 at K HH0 HI0 HG0 c3 ⊢
  refine K.out.mono ?_
  rintro e w1 ⟨rfl, sh, g1⟩
  have hkc : w.heap.size ≠ c := by omega
  have hkg : w.heap.size ≠ g := by omega
  have R1 := (g1.block r HH0.out.lt (by simpa using hrc)).trans HH0.out.blk
  have B1 := (g1.block g HH0.out.buf.glt (by simpa using hbg.symm)).trans HH0.out.buf.byt
  have I1 := (g1.block _ (blk_lt HI0.out) (by simpa using hkc)).trans HI0.out
  have d1 := blk_cell R1 1
  have d2 := blk_cell R1 2
  simp only [RC, List.getElem?_toArray, List.getElem?_cons_succ, List.getElem?_cons_zero] at d1 d2
  have i0 := blk_cell I1 0
  have i1 := blk_cell I1 1
  have i2 := blk_cell I1 2
  have f0 := blk_free I1 0
  have f1 := blk_free I1 1
  have f2 := blk_free I1 2
  simp only [List.getElem?_toArray, List.getElem?_cons_succ, List.getElem?_cons_zero] at i0 i1 i2
  have HB1 := Lib.hid B1
  have HI1 := Lib.hid I1
  have HT1 := Lib.hid (Tn.gb (gb_trans (gb_any HG0.out (some c)) g1) (S := [c]) (by simp))
  clear R1 B1 I1 sh g1 c3 HI0
  go_wp2_with fail
  go_region
  go_wp2
  refine bodyPost_ret (v := .tuple #[.agg #[.int .i64 a, .int .i64 b, .slice (some ⟨g, 0, none⟩) n n], .bool true]) (by simp only [results, Tryz.results22]; go_simp) rfl ⟨rfl, ?_, ?_⟩
  · exact (blk_other (blk_other (blk_other HB1.out hkg.symm) hkg.symm) hkg.symm)
  · exact (Tn.own1 (Tn.own1 (Tn.own1 HT1.out (Nat.le_refl _)) (Nat.le_refl _)) (Nat.le_refl _)).dr

theorem rfree_yes (r l c g a b : Nat) (s : ByteArray) (x : St) (w : World) (h : Ro r l c g a b s w) (hl : Led l x.ls w) (ok : x.Ok) :
    Calls Tryz.prog 29 #[.pointer (some ⟨r, 0, none⟩)] w
      fun e w' => e = .returned (.bool true) ∧ Led l (x.give s.size).1.ls w' ∧ Tn w w' [c, l] := by
  have K := Lib.hid (Bu.free_yes c l g s x w h.buf hl ok)
  have c3 := blk_cell h.blk 3
  simp only [RC, List.getElem?_toArray, List.getElem?_cons_succ, List.getElem?_cons_zero] at c3
  clear h hl ok
  go_enter Tryz.func29, Tryz.ntmps29
  go_wp2_with fail
  refine K.out.mono ?_
  rintro e w1 ⟨rfl, ⟨sh, L⟩, T0⟩
  have T := tnB T0
  have HL := Lib.hid L
  have HT := Lib.hid T
  clear L T T0 sh
  go_wp2
  go_ret
  exact ⟨rfl, HL.out, HT.out⟩

end Go.Proofs.YtmhghkgcfgacdaaGreat.Ra

/- A raster of which pixels are set one behind the other; what stands behind a decoder. -/
namespace Go.Proofs.YtmhghkgcfgacdaaGreat.Sh
open Go.ChangeShapes Go.WideShapes Go.ChangeAt Go.RowKit
open Go.Proofs.YtmhghkgcfgacdaaGreat.Le Go.Proofs.YtmhghkgcfgacdaaGreat.Tk Go.Proofs.YtmhghkgcfgacdaaGreat.Sr Go.Proofs.YtmhghkgcfgacdaaGreat.Ra
set_option linter.unusedVariables false

def colV (C : Nat → Nat → Int) (o : Nat) : Value := .agg #[.int .u8 (C o 0), .int .u8 (C o 1), .int .u8 (C o 2), .int .u8 (C o 3)]
/-- A colour's four bytes. -/
def fB (C : Nat → Nat → Int) (o : Nat) : ByteArray := Ra.four (UInt8.ofNat (C o 0).toNat) (UInt8.ofNat (C o 1).toNat) (UInt8.ofNat (C o 2).toNat) (UInt8.ofNat (C o 3).toNat)
/-- The bytes of N pixels, of which the first k are set. -/
def rk (C : Nat → Nat → Int) (N : Nat) : Nat → ByteArray
  | 0 => Bu.rep 0 (4 * N)
  | k + 1 => Bu.putS (rk C N k) (fB C k) (4 * k)
theorem nat_u8 {v : Int} (h : 0 ≤ v ∧ v ≤ 255) : ((UInt8.ofNat v.toNat).toNat : Int) = v := by
  rw [UInt8.toNat_ofNat']
  omega
theorem fB_size (C : Nat → Nat → Int) (o : Nat) : (fB C o).size = 4 := rfl
theorem rk_size (C : Nat → Nat → Int) (N : Nat) : ∀ k, k ≤ N → (rk C N k).size = 4 * N
  | 0, _ => by show (Bu.rep 0 (4 * N)).size = _; rw [Bu.rep_size]
  | k + 1, h => by
    have h1 := rk_size C N k (by omega)
    show (Bu.putS _ _ _).size = _
    rw [Bu.putS_size _ _ _ (by rw [fB_size, h1]; omega), h1]

/-- A pixel is set, its step let. -/
theorem set_at (r l cb g w h N k x y : Nat) (C : Nat → Nat → Int) (q : St) (u : World) (hC : ∀ j, 0 ≤ C k j ∧ C k j ≤ 255) (hx : x < w) (hy : y < h) (hw : w ≤ 16384) (hh : h ≤ 16384) (hk : y * w + x = k)
    (hro : Ro r l cb g w h (rk C N k) u) (hl : Led l q.ls u) (ok : q.Ok) (hr : q.r = 0) (hq : q.st + 1 ≤ q.s) :
    Calls Tryz.prog 96 #[.pointer (some ⟨r, 0, none⟩), .int .i64 x, .int .i64 y, colV C k] u
      fun e u' => e = .returned (.bool true) ∧ (Ro r l cb g w h (rk C N (k + 1)) u' ∧ Led l (stp q 1).ls u') ∧ Tn u u' [l, g] := by
  have K := set_px r l cb g w h x y k (rk C N k) q (UInt8.ofNat (C k 0).toNat) (UInt8.ofNat (C k 1).toNat) (UInt8.ofNat (C k 2).toNat) (UInt8.ofNat (C k 3).toNat) u hro hl ok (by rw [work_one hr hq]) hx hy hw hh hk
  rw [nat_u8 (hC 0), nat_u8 (hC 1), nat_u8 (hC 2), nat_u8 (hC 3), work_one hr hq] at K
  exact K.mono (fun e w' ⟨h1, h2, h3⟩ => ⟨h1, h2, tnB h3⟩)
/-- Its step is refused. -/
theorem set_no (r l cb g w h k x y : Nat) (C : Nat → Nat → Int) (R : ByteArray) (q : St) (u : World) (hx : x < w) (hy : y < h) (hw : w ≤ 16384) (hh : h ≤ 16384) (hk : y * w + x = k)
    (hro : Ro r l cb g w h R u) (hl : Led l q.ls u) (ok : q.Ok) (hr : q.r = 0) (hq : q.s < q.st + 1) :
    Calls Tryz.prog 96 #[.pointer (some ⟨r, 0, none⟩), .int .i64 x, .int .i64 y, colV C k] u
      fun e u' => e = .returned (.bool false) ∧ (Ro r l cb g w h R u' ∧ Led l (spent q).ls u') ∧ Tn u u' [l, g] := by
  have K := set_spent r l cb g w h x y k R q (C k 0) (C k 1) (C k 2) (C k 3) u hro hl ok (by rw [work_none ok hr hq]) hx hy hw hh hk
  rw [work_none ok hr hq] at K
  exact K

theorem width_calls (r l cb g a b : Nat) (R : ByteArray) (u : World) (h : Ro r l cb g a b R u) : Calls Tryz.prog 47 #[.pointer (some ⟨r, 0, none⟩)] u fun e w' => e = .returned (.int .i64 a) ∧ u = w' := by
  have c1 : u.cell? ⟨r, 1, none⟩ = some (.int .i64 a) := blk_cell h.blk 1
  clear h
  go_enter Tryz.func47, Tryz.ntmps47
  go_wp2
  go_ret
  exact ⟨rfl, rfl⟩
theorem height_calls (r l cb g a b : Nat) (R : ByteArray) (u : World) (h : Ro r l cb g a b R u) : Calls Tryz.prog 48 #[.pointer (some ⟨r, 0, none⟩)] u fun e w' => e = .returned (.int .i64 b) ∧ u = w' := by
  have c2 : u.cell? ⟨r, 2, none⟩ = some (.int .i64 b) := blk_cell h.blk 2
  clear h
  go_enter Tryz.func48, Tryz.ntmps48
  go_wp2
  go_ret
  exact ⟨rfl, rfl⟩

def flF (F k a : Int) : Value := .agg #[.int .i64 k, .int .i64 F, .int .i64 a]
def okT : Value := .agg #[.int .i64 0, .int .i64 0, .int .i64 0]
theorem ro_t {r l c g a b : Nat} {s : ByteArray} {w w' : World} {S : List Nat} (h : Ro r l c g a b s w) (t : Tn w w' S) (h1 : r ∉ S) (h2 : c ∉ S) (h3 : g ∉ S) : Ro r l c g a b s w' := h.turned ⟨t.os, t.tape, t.output, t.size, t.block⟩ h1 h2 h3
/-- The blocks of a filling. -/
structure FB (W : World) (c l r cb g : Nat) : Prop where
  pc : c < W.heap.size
  pl : l < W.heap.size
  pr : r < W.heap.size
  pb : cb < W.heap.size
  pg : g < W.heap.size
  ncl : c ≠ l
  ncr : c ≠ r
  ncb : c ≠ cb
  ncg : c ≠ g
  nlr : l ≠ r
  nlb : l ≠ cb
  nlg : l ≠ g
  nrb : r ≠ cb
  nrg : r ≠ g
  nbg : cb ≠ g
/-- Behind a filling of n pixels: as it would with steps enough, N of them at most; or where they ran out. -/
def FO (F : Int) (W : World) (c l r cb g gw gh : Nat) (C : Nat → Nat → Int) (s : ByteArray) (x : St) (f p N n : Nat) (e : Ending) (w' : World) : Prop :=
  ∃ (q : Nat) (y : St), Rd c l s q y w' ∧ Tn W w' [c, l, g] ∧ Lm x y ∧ y.by_ = x.by_ ∧ (∃ R, Ro r l cb g gw gh R w') ∧
    ((f = 0 ∧ e = .returned okT ∧ y.r = 0 ∧ Ro r l cb g gw gh (rk C n n) w') ∨
     (f ≠ 0 ∧ e = .returned (flF F f p) ∧ y.r = 0) ∨
     (x.s < x.st + (N : Int) ∧ (∃ j : Nat, j ≤ s.size ∧ e = .returned (flF F 4 j)) ∧ y.r ≠ 0))
/-- Behind Decode. -/
def DT (F : Int) (W : World) (s : ByteArray) (c l : Nat) (x : St) (f p w h N : Nat) (A : ByteArray) (e : Ending) (w' : World) : Prop :=
  ∃ (q : Nat) (y : St), Rd c l s q y w' ∧ Tn W w' [c, l] ∧ Lm x y ∧
    ((f = 0 ∧ (∃ r cb g, e = .returned (.tuple #[.pointer (some ⟨r, 0, none⟩), okT]) ∧ Ro r l cb g w h A w' ∧ W.heap.size ≤ r ∧ W.heap.size ≤ cb ∧ W.heap.size ≤ g) ∧ y.by_ = x.by_ + ((4 * (w * h) : Nat) : Int) ∧ y.r = 0 ∧ (w : Int) ≤ x.w ∧ (h : Int) ≤ x.h) ∨
     (f ≠ 0 ∧ e = .returned (.tuple #[.pointer none, flF F f p]) ∧ y.r = 0 ∧ y.by_ = x.by_) ∨
     ((x.w < w ∨ x.h < h ∨ x.b < x.by_ + ((4 * (w * h) : Nat) : Int) ∨ x.s < x.st + (N : Int)) ∧ (∃ j : Nat, j ≤ s.size ∧ e = .returned (.tuple #[.pointer none, flF F 4 j])) ∧ y.r ≠ 0 ∧ y.by_ = x.by_))
/-- What a decoder does with a text, by any ledger: the fault f at p (f 0: none), sides w and h, N steps at most, the raster's bytes A. -/
structure TV where
  f : Nat
  p : Nat
  w : Nat
  h : Nat
  N : Nat
  A : ByteArray

/-- Bytes are taken. -/
def tkn (x : St) (n : Nat) : St := { x with by_ := x.by_ + n, pk := up x.pk (x.by_ + n) }
theorem take_ok {x : St} (hr : x.r = 0) (n : Nat) (h : x.by_ + (n : Int) ≤ x.b) : x.take (n : Int) = (tkn x n, true) := by
  unfold St.take
  rw [if_neg (by simpa using hr), if_neg (by omega)]
  rfl
theorem take_nok {x : St} (hr : x.r = 0) (n : Nat) (h : x.b < x.by_ + (n : Int)) : (x.take (n : Int)).2 = false ∧ Lm x (x.take (n : Int)).1 ∧ (x.take (n : Int)).1.r ≠ 0 ∧ (x.take (n : Int)).1.by_ = x.by_ := by
  unfold St.take
  rw [if_neg (fun h => h hr), if_pos (by omega)]
  unfold St.refuse
  rw [if_pos hr]
  exact ⟨rfl, ⟨rfl, rfl, rfl, rfl⟩, by show (2 : Int) ≠ 0; decide, rfl⟩
theorem sides_okd {x : St} {a b : Int} (hr : x.r = 0) (a1 : 1 ≤ a) (a2 : a ≤ x.w) (b1 : 1 ≤ b) (b2 : b ≤ x.h) : x.sides a b = (x, true) := by
  unfold St.sides
  rw [if_neg (fun h => h hr), if_neg (by omega), if_neg (by omega)]
theorem sides_nok {x : St} {a b : Int} (hr : x.r = 0) (a1 : 1 ≤ a) (b1 : 1 ≤ b) (hn : x.w < a ∨ x.h < b) : (x.sides a b).2 = false ∧ Lm x (x.sides a b).1 ∧ (x.sides a b).1.r ≠ 0 ∧ (x.sides a b).1.by_ = x.by_ := by
  unfold St.sides
  rw [if_neg (fun h => h hr)]
  by_cases h1 : a < 1 ∨ x.w < a
  · rw [if_pos h1]
    unfold St.refuse
    rw [if_pos hr]
    exact ⟨rfl, ⟨rfl, rfl, rfl, rfl⟩, by show (1 : Int) ≠ 0; decide, rfl⟩
  · rw [if_neg h1, if_pos (by omega)]
    unfold St.refuse
    rw [if_pos hr]
    exact ⟨rfl, ⟨rfl, rfl, rfl, rfl⟩, by show (1 : Int) ≠ 0; decide, rfl⟩
theorem new_nod (l : Nat) (x : St) (a b : Nat) (w : World) (h : Led l x.ls w) (ok : x.Ok) (hr : x.r = 0) (a0 : 1 ≤ a) (a1 : a ≤ 16384) (b0 : 1 ≤ b) (b1 : b ≤ 16384) (hn : x.w < a ∨ x.h < b ∨ x.b < x.by_ + ((4 * (a * b) : Nat) : Int)) :
    Calls Tryz.prog 24 #[.pointer (some ⟨l, 0, none⟩), .int .i64 a, .int .i64 b] w
      fun e w' => e = .returned (.tuple #[.pointer none, .int .i64 4]) ∧ ∃ y, Led l y.ls w' ∧ y.Ok ∧ Lm x y ∧ y.r ≠ 0 ∧ y.by_ = x.by_ ∧ w.grownBy w' (some l) := by
  by_cases h1 : x.w < a ∨ x.h < b
  · obtain ⟨e1, e2, e3, e4⟩ := sides_nok (x := x) (a := a) (b := b) hr (by omega) (by omega) h1
    exact (Ra.new_sides l x a b w h a0 a1 b0 b1 e1).mono fun e w' ⟨he, hL, hg⟩ => ⟨he, _, hL, ok.sides _ _, e2, e3, e4, hg⟩
  · obtain ⟨e1, e2, e3, e4⟩ := take_nok hr (4 * (a * b)) (by omega)
    exact (Ra.new_spent l x a b w h ok a0 a1 b0 b1 (sides_okd hr (by omega) (by omega) (by omega) (by omega)) e1).mono fun e w' ⟨he, hL, hg⟩ => ⟨he, _, hL, ok.take _, e2, e3, e4, hg⟩
theorem ledger_rd (c l : Nat) (s : ByteArray) (p : Nat) (x : St) (w : World) (h : Rd c l s p x w) :
    Calls Tryz.prog 25 #[.pointer (some ⟨c, 0, none⟩)] w fun e w' => e = .returned (.pointer (some ⟨l, 0, none⟩)) ∧ w = w' := Sr.ledger_calls c l s p 0 s.size w h.so
theorem give_d {x x1 y z : St} {n : Nat} (L : Lm x x1) (hb : x1.by_ = x.by_ + ((n : Nat) : Int)) (h0 : 0 ≤ x.by_) (L2 : Lm x1 y) (hy : y.by_ = x1.by_) : Lm x (y.give ((n : Nat) : Int)).1 ∧ (y.give ((n : Nat) : Int)).1.by_ = x.by_ ∧ (y.give ((n : Nat) : Int)).1.r = y.r := by
  have h2 := L.trans L2
  unfold St.give
  rw [if_neg (by omega)]
  exact ⟨⟨h2.w, h2.h, h2.b, h2.s⟩, by show y.by_ - _ = x.by_; omega, rfl⟩


end Go.Proofs.YtmhghkgcfgacdaaGreat.Sh
